package oplog

import (
	"math"
	"math/rand"
	"slices"
	"strconv"
	"testing"

	"counterpane/api"
	"counterpane/cells"
	"counterpane/value"
)

func id(author, n int) api.Id { return api.Id{Author: author, N: n} }

func typed(s string) api.Content { return api.Content{Kind: api.Typed, Value: value.Read(s)} }

func formula() api.Content {
	return api.Content{Kind: api.Formula, Tree: api.Node{Kind: api.Call, Name: "SUM", L: []api.Node{{Value: value.Read("1")}}}}
}

func cell() api.Cell { return api.Cell{Row: id(0, 1), Col: id(1000, 2)} }

func same(a, b Letter) bool {
	return a.Deed.Id == b.Deed.Id && a.Deed.Kind == b.Deed.Kind && a.Deed.Cell == b.Deed.Cell && a.Deed.At == b.Deed.At && a.Deed.Text == b.Deed.Text && cells.Same(a.Deed.Content, b.Deed.Content) && slices.Equal(a.Seen, b.Seen)
}

var rights = map[string]Letter{
	"2.1;;T3.7;":                       {Deed: api.Deed{Id: id(2, 1), Kind: api.TakeBack, At: id(3, 7)}},
	"1.6;1.4,2.5;S0.1,1000.2;VS2:a;;":  {Deed: api.Deed{Id: id(1, 6), Kind: api.SetCell, Cell: cell(), Content: typed("a;")}, Seen: []api.Id{id(1, 4), id(2, 5)}},
	"1.1;;S0.1,1000.2;.":               {Deed: api.Deed{Id: id(1, 1), Kind: api.SetCell, Cell: cell()}},
	"1.1;;S0.1,1000.2;=C3:SUM,1;N1e0;": {Deed: api.Deed{Id: id(1, 1), Kind: api.SetCell, Cell: cell(), Content: formula()}},
	"5.3;7.2;R0.0;":                    {Deed: api.Deed{Id: id(5, 3), Kind: api.InsertRow}, Seen: []api.Id{id(7, 2)}},
	"5.3;7.2;C1.2;":                    {Deed: api.Deed{Id: id(5, 3), Kind: api.InsertCol, At: id(1, 2)}, Seen: []api.Id{id(7, 2)}},
	"1.1;;r0.9;":                       {Deed: api.Deed{Id: id(1, 1), Kind: api.DeleteRow, At: id(0, 9)}},
	"1.1;;c1000.9;":                    {Deed: api.Deed{Id: id(1, 1), Kind: api.DeleteCol, At: id(1000, 9)}},
	"1.1;;N3:TAX;.":                    {Deed: api.Deed{Id: id(1, 1), Kind: api.SetName, Text: "TAX"}},
	"1000.1;;N2:B_;=C3:SUM,1;N1e0;":    {Deed: api.Deed{Id: id(1000, 1), Kind: api.SetName, Text: "B_", Content: formula()}},
	"1.9223372036854775807;1.9223372036854775806;r0.1;": {Deed: api.Deed{Id: id(1, math.MaxInt), Kind: api.DeleteRow, At: id(0, 1)}, Seen: []api.Id{id(1, math.MaxInt-1)}},
}

func TestP35_1(t *testing.T) {
	for s, l := range rights {
		if got, e := Encode(l); got != s || e != api.OK || !Right(l.Deed) {
			t.Error(s, got, e)
		}
		if got, e := Decode(s); e != api.OK || !same(got, l) {
			t.Error(s, got, e)
		}
		for i := range len(s) {
			if got, e := Decode(s[:i]); e != api.ErrForm || !same(got, Letter{}) {
				t.Error(s[:i])
			}
		}
		if _, e := Decode(s + ";"); e != api.ErrForm {
			t.Error(s)
		}
		for i, f := range []func(l *Letter){
			func(l *Letter) { l.Deed.Kind = 0 }, func(l *Letter) { l.Deed.Kind = 8 }, func(l *Letter) { l.Deed.Kind = -1 }, func(l *Letter) { l.Deed.Id.Author = 0 }, func(l *Letter) { l.Deed.Id.Author = 1001 }, func(l *Letter) { l.Deed.Id.N++ }, func(l *Letter) { l.Deed.Id.N = 0 },
			func(l *Letter) { l.Seen = append([]api.Id{id(9, 1)}, l.Seen...); l.Seen = append(l.Seen, id(9, 1)) }, func(l *Letter) { l.Seen = append([]api.Id{id(0, 1)}, l.Seen...) }, func(l *Letter) { l.Seen = append(slices.Clone(l.Seen), id(1001, 1)) },
			func(l *Letter) {
				if l.Deed.Kind == api.SetCell {
					l.Deed.Cell.Row = id(-1, 1)
				} else {
					l.Deed.Cell.Row.N = 1
				}
			},
			func(l *Letter) {
				if l.Deed.Kind == api.SetCell || l.Deed.Kind == api.SetName {
					l.Deed.At.N = 1
				} else {
					l.Deed.At = id(1001, 1)
				}
			},
			func(l *Letter) {
				if l.Deed.Kind == api.SetName {
					l.Deed.Text = "R1C1"
				} else {
					l.Deed.Text = "TAX"
				}
			},
			func(l *Letter) { l.Deed.Content = api.Content{Kind: 9} },
			func(l *Letter) {
				if l.Deed.Kind == api.SetCell {
					l.Deed.Cell.Col = api.Id{}
				} else {
					l.Deed.Content = typed("1")
				}
			},
		} {
			m := Clone(l)
			f(&m)
			if got, e := Encode(m); got != "" || e != api.ErrForm {
				t.Error(s, i, got)
			}
			if l, e := NewBox().Put(m); l != nil || e != api.ErrForm {
				t.Error(s, i)
			}
		}
	}
	for _, d := range []api.Deed{{}, {Id: id(1, 1), Kind: api.TakeBack, At: id(0, 1)}, {Id: id(1, 1), Kind: api.TakeBack}, {Id: id(1, 1), Kind: api.DeleteRow}, {Id: id(1, 1), Kind: api.DeleteRow, At: id(-1, 5)}, {Id: id(1, 1), Kind: api.InsertRow, At: id(5, 0)}, {Id: id(1, 1), Kind: api.InsertRow, At: id(5, -1)}, {Id: id(1, math.MinInt), Kind: api.InsertRow}} {
		if Right(d) {
			t.Error(d)
		}
	}
	for _, s := range []string{"", ";", ";;", "1.1;;", "1.1;;X;", "01.1;;r0.1;", "1.+1;;r0.1;", "1.1;;r0.01;", "1.1;;r0.1", "1.2;1.1,;r0.1;", "1.2;2.1,1.1;r0.1;", "1.3;1.1;r0.1;", "1.1;1.1;r0.1;", "1.1;;N03:TAX;.", "1.1;;N2:TAX;.", "1.1;;NTAX;.", "1.1;;S0.1;.", "1.1;;S0.1,0.1;", "1.1;;S0.1,0.1,0.1;.", "1.1;;R;", "1.1;;R0.1;x"} {
		if l, e := Decode(s); e != api.ErrForm || !same(l, Letter{}) {
			t.Error(s, e)
		}
	}
}

// chain tells letters of an author, each of whom has seen the one ahead.
func chain(author, n int) (l []Letter) {
	for i := range n {
		x := Letter{Deed: api.Deed{Id: id(author, i+1), Kind: api.InsertRow}}
		if i > 0 {
			x.Seen = []api.Id{id(author, i)}
		}
		l = append(l, x)
	}
	return l
}

func ids(l []Letter) (out []api.Id) {
	for _, x := range l {
		out = append(out, x.Deed.Id)
	}
	return
}

func TestP35_2_P35_3(t *testing.T) {
	b := NewBox()
	c := chain(1, 4)
	put := func(l Letter, waiting int, want ...api.Id) {
		t.Helper()
		got, e := b.Put(l)
		if e != api.OK || !slices.Equal(ids(got), want) || b.Waiting() != waiting {
			t.Error(ids(got), e, b.Waiting())
		}
	}
	put(c[1], 1)
	put(c[1], 1)
	put(c[2], 2)
	put(c[0], 0, id(1, 1), id(1, 2), id(1, 3))
	put(c[1], 0)
	// Another letter with the same author's number is late; what comes before goes first.
	other := Letter{Deed: api.Deed{Id: id(2, 1), Kind: api.InsertCol}}
	both := Letter{Deed: api.Deed{Id: id(3, 2), Kind: api.InsertCol}, Seen: []api.Id{id(2, 1)}}
	also := Letter{Deed: api.Deed{Id: id(2, 2), Kind: api.InsertCol}, Seen: []api.Id{id(2, 1)}}
	put(both, 1)
	put(also, 2)
	put(other, 0, id(2, 1), id(2, 2), id(3, 2))
	// Of the author just the entry is to be had: without an entry it had seen nothing of its own.
	put(Letter{Deed: api.Deed{Id: id(3, 3), Kind: api.InsertCol}, Seen: []api.Id{id(2, 2)}}, 1)
	put(Letter{Deed: api.Deed{Id: id(3, 5), Kind: api.InsertCol}, Seen: []api.Id{id(1, 4), id(3, 2)}}, 2)
	put(c[3], 0, id(1, 4), id(3, 5))
	seen := b.Seen()
	if !seen.Has(id(3, 5)) || seen.Has(id(3, 6)) || !seen.Has(id(1, 4)) || seen.Has(id(1, 5)) || !seen.Has(id(2, 2)) || seen.Has(id(2, 3)) {
		t.Error("seen")
	}
	seen.Add(id(9, 9))
	if b.Seen().Has(id(9, 9)) {
		t.Error("not in new memory")
	}
	var none *Box
	if l, e := none.Put(Letter{}); l != nil || e != api.ErrArg || none.Waiting() != 0 || none.Seen() == nil || none.Seen().Next(1) != id(1, 1) {
		t.Error("nil")
	}
	var zero Box
	if l, e := zero.Put(c[0]); len(l) != 1 || e != api.OK || zero.Waiting() != 0 {
		t.Error("zero")
	}
	in := Letter{Deed: api.Deed{Id: id(1, 3), Kind: api.SetCell, Cell: cell(), Content: formula()}, Seen: []api.Id{id(1, 2)}}
	kept := Clone(in)
	d := NewBox()
	d.Put(in)
	in.Deed.Content.Tree.L[0] = api.Node{}
	in.Seen[0] = id(7, 7)
	d.Put(c[0])
	if l, _ := d.Put(c[1]); len(l) != 2 || !same(l[1], kept) {
		t.Error("what was handed in is kept")
	}
}

func TestP35_2_full(t *testing.T) {
	b := NewBox()
	c := chain(1, api.MaxOps+2)
	for _, l := range c[1 : api.MaxOps+1] {
		if _, e := b.Put(l); e != api.OK {
			t.Fatal(e)
		}
	}
	if l, e := b.Put(c[api.MaxOps+1]); l != nil || e != api.ErrFull || b.Waiting() != api.MaxOps {
		t.Error(e)
	}
	if l, e := b.Put(c[0]); l != nil || e != api.ErrFull {
		t.Error(e)
	}
	if _, e := b.Put(c[5]); e != api.OK {
		t.Error("it waits")
	}
	if _, e := b.Put(Letter{}); e != api.ErrForm {
		t.Error(e)
	}
}

func TestP35_4(t *testing.T) {
	r := rand.New(rand.NewSource(1))
	for range 300 {
		// Writers who have one another's letters in part.
		boxes := []*Box{NewBox(), NewBox(), NewBox()}
		var all []Letter
		for range 15 {
			a := r.Intn(3)
			for _, l := range all {
				if r.Intn(2) == 0 {
					boxes[a].Put(l)
				}
			}
			seen := boxes[a].Seen()
			l := Letter{Deed: api.Deed{Id: seen.Next(a + 1), Kind: api.SetCell, Cell: cell(), Content: typed(strconv.Itoa(r.Intn(9)))}}
			for author, n := range seen.All() {
				l.Seen = append(l.Seen, id(author, n))
			}
			if got, e := boxes[a].Put(l); e != api.OK || !slices.Contains(ids(got), l.Deed.Id) {
				t.Fatal(e)
			}
			all = append(all, l)
		}
		r.Shuffle(len(all), func(i, j int) { all[i], all[j] = all[j], all[i] })
		b := NewBox()
		var came []Letter
		for _, l := range append(all, all...) {
			got, _ := b.Put(l)
			came = append(came, got...)
		}
		if len(came) != len(all) || b.Waiting() != 0 {
			t.Fatal(len(came))
		}
		for i, l := range came {
			for _, s := range l.Seen {
				if !slices.Contains(ids(came[:i]), s) {
					t.Fatal("ahead of what its author had seen")
				}
			}
		}
	}
}
