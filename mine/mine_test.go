package mine

import (
	"math/rand"
	"strings"
	"testing"

	"counterpane/api"
	"counterpane/oplog"
	"counterpane/share"
	"counterpane/sheet"
)

func id(author, n int) api.Id { return api.Id{Author: author, N: n} }

func back(x, at api.Id) api.Deed { return api.Deed{Id: x, Kind: api.TakeBack, At: at} }

// slow is the document's definition, word by word.
func slow(l []api.Deed, deed api.Id) bool {
	for _, d := range l {
		if d.Kind == api.TakeBack && d.At == deed && d.Id.Author == deed.Author && d.Id.N > deed.N && !slow(l, d.Id) {
			return true
		}
	}
	return false
}

func TestP39_1(t *testing.T) {
	a := id(1, 1)
	for i, c := range []struct {
		l    []api.Deed
		want bool
	}{
		{nil, false}, {[]api.Deed{back(id(1, 2), a)}, true}, {[]api.Deed{back(id(2, 2), a)}, false}, {[]api.Deed{back(id(1, 1), a)}, false}, {[]api.Deed{back(id(1, 0), a)}, false}, {[]api.Deed{back(id(1, 2), a), back(id(1, 3), id(1, 2))}, false}, {[]api.Deed{back(id(1, 4), id(1, 3)), back(id(1, 3), id(1, 2)), back(id(1, 2), a)}, true}, {[]api.Deed{back(id(1, 2), a), back(id(2, 3), id(1, 2))}, true}, {[]api.Deed{back(id(1, 2), a), back(id(1, 5), a), back(id(1, 3), id(1, 2))}, true}, {[]api.Deed{{Id: id(1, 2), Kind: api.DeleteRow, At: a}}, false},
	} {
		if got := Gone(c.l, a); got != c.want || slow(c.l, a) != c.want {
			t.Error(i, got)
		}
	}
	r := rand.New(rand.NewSource(1))
	for range 3000 {
		var l []api.Deed
		for range r.Intn(8) {
			l = append(l, back(id(r.Intn(2), r.Intn(6)-1), id(r.Intn(2), r.Intn(6)-1)))
		}
		for n := range 7 {
			if x := id(r.Intn(2), n-1); Gone(l, x) != slow(l, x) {
				t.Fatal(l, x)
			}
		}
	}
}

func texts(w *share.Writer) string {
	s := w.Sheet()
	var l []string
	for row := range s.Rows.Len() {
		l = append(l, s.Text(row, 0))
	}
	return strings.Join(l, "|")
}

func TestP39_2_P39_3(t *testing.T) {
	w := share.New(1, 2, 1)
	u := New(w)
	step := func(l oplog.Letter, e, want api.Errno, at api.Id, text string, back, forth int) {
		t.Helper()
		if e != want || l.Deed.At != at || texts(w) != text || u.Back() != back || u.Forth() != forth || e == api.OK && l.Deed.Kind != api.TakeBack {
			t.Error(e, l.Deed, texts(w), u.Back(), u.Forth())
		}
	}
	l, e := u.Undo()
	step(l, e, api.ErrNone, api.Id{}, "|", 0, 0)
	l, e = u.Redo()
	step(l, e, api.ErrNone, api.Id{}, "|", 0, 0)
	x, _, _ := w.Type(0, 0, "a")
	u.Did(x)
	y, _ := w.InsertRow(0)
	u.Did(y)
	z, _, _ := w.Type(0, 0, "b")
	u.Did(z)
	u.Did(oplog.Letter{})
	l, e = u.Undo()
	step(l, e, api.OK, z.Deed.Id, "|a|", 2, 1)
	u.Did(l)
	first := l
	l, e = u.Undo()
	step(l, e, api.OK, y.Deed.Id, "a|", 1, 2)
	second := l
	l, e = u.Redo()
	step(l, e, api.OK, second.Deed.Id, "|a|", 2, 1)
	l, e = u.Redo()
	step(l, e, api.OK, first.Deed.Id, "b|a|", 3, 0)
	l, e = u.Redo()
	step(l, e, api.ErrNone, api.Id{}, "b|a|", 3, 0)
	// What was taken back otherwise is passed over.
	w.TakeBack(z.Deed.Id)
	w.TakeBack(y.Deed.Id)
	l, e = u.Undo()
	step(l, e, api.OK, x.Deed.Id, "|", 0, 1)
	w.TakeBack(l.Deed.Id)
	l, e = u.Redo()
	step(l, e, api.ErrNone, api.Id{}, "a|", 0, 0)
	l, e = u.Undo()
	step(l, e, api.ErrNone, api.Id{}, "a|", 0, 0)
	// What is new leaves none forth; another one's deed can't be taken back.
	v, _, _ := w.Type(0, 0, "v")
	u.Did(v)
	l, e = u.Undo()
	step(l, e, api.OK, v.Deed.Id, "a|", 0, 1)
	v, _, _ = w.Type(0, 0, "v")
	u.Did(v)
	step(oplog.Letter{}, api.OK+api.ErrNone, api.ErrNone, api.Id{}, "v|", 1, 0)
	u.Did(oplog.Letter{Deed: api.Deed{Id: id(2, 1), Kind: api.InsertRow}})
	l, e = u.Undo()
	step(l, e, api.OK, v.Deed.Id, "a|", 0, 1)
	for i, u := range []*Undoer{nil, New(nil), {}} {
		u.Did(v)
		_, e1 := u.Undo()
		_, e2 := u.Redo()
		if e1 != api.ErrArg || e2 != api.ErrArg || u.Back() != 0 || u.Forth() != 0 {
			t.Error(i, e1, e2)
		}
	}
}

func TestP39_4(t *testing.T) {
	a, b := share.New(1, 1, 1), share.New(2, 1, 1)
	u, v := New(a), New(b)
	one, _, _ := a.Type(0, 0, "1")
	u.Did(one)
	b.Take(one)
	two, _, _ := b.Type(0, 0, "2")
	v.Did(two)
	a.Take(two)
	l, _ := u.Undo()
	b.Take(l)
	if texts(a) != "2" || texts(b) != "2" {
		t.Error(texts(a), texts(b))
	}
	l, _ = v.Undo()
	a.Take(l)
	if texts(a) != "" || texts(b) != "" {
		t.Error(texts(a), texts(b))
	}
	l, _ = v.Redo()
	a.Take(l)
	l, _ = u.Redo()
	b.Take(l)
	if texts(a) != "2" || !sheet.Same(a.Sheet(), b.Sheet()) {
		t.Error(texts(a), texts(b))
	}
}
