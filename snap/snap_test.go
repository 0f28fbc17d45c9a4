package snap

import (
	"math"
	"math/rand"
	"strings"
	"testing"

	"counterpane/api"
	"counterpane/dot"
	"counterpane/oplog"
	"counterpane/share"
	"counterpane/sheet"
)

func id(author, n int) api.Id { return api.Id{Author: author, N: n} }

func seen(l ...api.Id) *dot.Seen {
	s := dot.New()
	for _, x := range l {
		s.Add(x)
	}
	return s
}

func same(a, b *dot.Seen) bool { return a != nil && b != nil && a.Covers(b) && b.Covers(a) }

func some() *share.Writer {
	a, b := share.New(1, 2, 1), share.New(2, 2, 1)
	a.Type(0, 0, "l\nf:;")
	a.InsertRow(1)
	for _, l := range a.Since(nil) {
		b.Take(l)
	}
	a.Type(0, 0, "=A2")
	b.Type(0, 0, "x")
	b.Name("TAX", "=1")
	for _, l := range b.Since(a.Seen()) {
		a.Take(l)
	}
	a.DeleteRow(2)
	return a
}

func TestP40_1(t *testing.T) {
	if s, e := Take(share.New(5, 2, 1)).Text(); s != "counterpane snap 2 1 0\n" || e != api.OK {
		t.Error(s, e)
	}
	w := some()
	p := Take(w)
	text, e := p.Text()
	if e != api.OK || !strings.HasPrefix(text, "counterpane snap 2 1 6\n24:1.1;;S0.1,0.1;VS5:l\nf:;;\n") {
		t.Errorf("%q", text)
	}
	w.Type(0, 0, "later")
	w.InsertCol(0)
	if again, _ := p.Text(); again != text {
		t.Error("it changed")
	}
	if Take(nil) != nil {
		t.Error("nil")
	}
	var none *Snapshot
	if s, e := none.Text(); s != "" || e != api.ErrArg {
		t.Error(s, e)
	}
}

func TestP40_2(t *testing.T) {
	w := some()
	text, _ := Take(w).Text()
	p, at, e := Read(text)
	if e != api.OK || at != 0 {
		t.Fatal(at, e)
	}
	if again, _ := p.Text(); again != text {
		t.Errorf("%q", again)
	}
	const one = "10:1.1;;R0.0;\n"
	const h = "counterpane snap 2 1 "
	for i, c := range []struct {
		s  string
		at int
		e  api.Errno
	}{
		{"", 0, api.ErrHead}, {h + "0", 0, api.ErrHead}, {h + "00\n", 0, api.ErrHead}, {h + "-1\n", 0, api.ErrHead}, {h + "+1\n", 0, api.ErrHead}, {h + "10001\n", 0, api.ErrHead}, {"counterpane snap 1001 1 0\n", 0, api.ErrHead}, {"counterpane snap 1 1001 0\n", 0, api.ErrHead}, {"counterpane snap 1 1\n", 0, api.ErrHead}, {"counterpane snap 1 1 0 \n", 0, api.ErrHead}, {"counterpane snap  1 1 0\n", 0, api.ErrHead}, {"Counterpane snap 1 1 0\n", 0, api.ErrHead}, {"counterpane snap 1000 1000 0\n", 0, api.OK}, {h + "99999999999999999999\n", 0, api.ErrHead},
		{h + "0\n", 0, api.OK}, {h + "0\nx", 23, api.ErrEnd}, {h + "1\n", 23, api.ErrForm}, {h + "1\n" + one, 0, api.OK}, {h + "1\n" + one + "\n", 23 + len(one), api.ErrEnd}, {h + "1\n" + one[:len(one)-1], 23, api.ErrForm}, {h + "1\n0" + one, 23, api.ErrForm}, {h + "1\n" + "9" + one[2:], 23, api.ErrForm}, {h + "1\n" + "99" + one[2:], 23, api.ErrForm}, {h + "1\n0:\n", 23, api.ErrForm}, {h + "1\n-1:\n", 23, api.ErrForm}, {h + "1\n99999999999999999999:x\n", 23, api.ErrForm}, {h + "1\n10:1.1;;X0.0;\n", 23, api.ErrForm},
		{h + "2\n" + one + one, 23 + len(one), api.ErrSeen}, {h + "2\n" + one, 23 + len(one), api.ErrForm}, {h + "1\n13:1.2;1.1;R0.0;\n", 23, api.ErrSeen}, {h + "2\n10:2.1;;R0.0;\n" + one, 23 + len(one), api.ErrSeen}, {h + "2\n" + one + "13:1.2;2.1;R0.0;\n", 23 + len(one), api.ErrSeen}, {h + "2\n" + one + "10:2.1;;R0.0;\n", 0, api.OK},
	} {
		p, at, e := Read(c.s)
		if at != c.at || e != c.e || (p == nil) != (e != api.OK) {
			t.Error(i, at, e)
		}
	}
	r := rand.New(rand.NewSource(1))
	for range 3000 {
		b := []byte(text)
		b[r.Intn(len(b))] = text[r.Intn(len(text))]
		if p, _, e := Read(string(b)); e == api.OK {
			if again, _ := p.Text(); again != string(b) {
				t.Fatal(string(b))
			}
		}
	}
}

func TestP40_3(t *testing.T) {
	w := some()
	p := Take(w)
	for _, author := range []int{1, 2, 1000} {
		x, e := p.Writer(author)
		if e != api.OK || !sheet.Same(x.Sheet(), w.Sheet()) || !same(x.Seen(), w.Seen()) || len(x.Since(nil)) != len(w.Since(nil)) {
			t.Error(author, e)
		}
		if l, _, e := x.Type(0, 0, "new"); e != api.OK || l.Deed.Id.Author != author {
			t.Error(e)
		}
	}
	for _, author := range []int{0, -1, 1001, math.MaxInt} {
		if x, e := p.Writer(author); x != nil || e != api.ErrRange {
			t.Error(author, e)
		}
	}
	var none *Snapshot
	if x, e := none.Writer(0); x != nil || e != api.ErrArg {
		t.Error(e)
	}
	// What both take behind that comes to the same.
	x, _ := p.Writer(7)
	other, _ := p.Writer(8)
	other.Type(0, 0, "more")
	other.InsertRow(0)
	for _, l := range other.Since(x.Seen()) {
		x.Take(l)
		w.Take(l)
	}
	if !sheet.Same(x.Sheet(), w.Sheet()) {
		t.Error("apart")
	}
}

func TestP40_4_P40_5(t *testing.T) {
	for i, c := range []struct{ got, want *dot.Seen }{
		{Stable(), seen()}, {Stable(seen(id(1, 3), id(2, 5)), seen(id(1, 4))), seen(id(1, 3))}, {Stable(seen(id(1, 4)), seen(id(1, 3), id(2, 5))), seen(id(1, 3))}, {Stable(seen(id(1, 3)), nil), seen()}, {Stable(nil, seen(id(1, 3))), seen()}, {Stable(seen(id(1, 3), id(9, 9))), seen(id(1, 3), id(9, 9))}, {Stable(nil), seen()},
	} {
		if !same(c.got, c.want) {
			t.Error(i)
		}
	}
	in := seen(id(1, 3))
	Stable(in).Add(id(1, 9))
	if in.Has(id(1, 4)) {
		t.Error("an argument's memory")
	}
	w := some()
	all := w.Since(nil)
	if l := Trim(all, nil); len(l) != 6 {
		t.Error(len(l))
	}
	if l := Trim(all, w.Seen()); l != nil {
		t.Error(len(l))
	}
	if Trim(nil, nil) != nil || len(Trim([]oplog.Letter{{}}, w.Seen())) != 1 {
		t.Error("any letters")
	}
	l := Trim(all, seen(id(1, 2)))
	if len(l) != 4 || l[0].Deed.Id.N != 3 {
		t.Error(l)
	}
	l[0].Seen[0] = id(9, 9)
	if all[2].Seen[0] == id(9, 9) {
		t.Error("not in new memory")
	}
	stable := seen(id(1, 2))
	behind := share.New(3, 2, 1)
	for _, x := range all[:2] {
		behind.Take(x)
	}
	for _, x := range Trim(all, stable) {
		behind.Take(x)
	}
	if !sheet.Same(behind.Sheet(), w.Sheet()) || !same(behind.Seen(), w.Seen()) {
		t.Error("apart")
	}
}
