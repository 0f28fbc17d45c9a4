package reg

import (
	"math"
	"math/rand"
	"slices"
	"testing"

	"counterpane/api"
	"counterpane/cells"
	"counterpane/value"
)

func id(author, n int) api.Id { return api.Id{Author: author, N: n} }

func write(x api.Id, s string, over ...api.Id) Write {
	return Write{Id: x, Content: api.Content{Kind: api.Typed, Value: value.Read(s)}, Over: over}
}

func told(g *Reg, gone ...api.Id) (string, []api.Id) {
	c, l := g.Get(func(x api.Id) bool { return slices.Contains(gone, x) })
	var ids []api.Id
	for _, w := range l {
		ids = append(ids, w.Id)
	}
	return value.Show(c.Value), ids
}

func TestP37_1(t *testing.T) {
	g := New()
	var none *Reg
	bad := api.Content{Kind: 9}
	for i, c := range []struct{ got, want api.Errno }{
		{none.Put(write(id(1, 1), "a")), api.ErrArg}, {g.Put(Write{}), api.ErrArg}, {g.Put(write(id(0, 1), "a")), api.ErrArg}, {g.Put(write(id(1001, 1), "a")), api.ErrArg}, {g.Put(Write{Id: id(1, 0), Content: bad}), api.ErrArg}, {g.Put(write(id(1, math.MinInt), "a")), api.ErrArg},
		{g.Put(write(id(1, 5), "a", id(0, 1))), api.ErrArg}, {g.Put(write(id(1, 5), "a", id(2, 1), id(1, 1))), api.ErrArg}, {g.Put(write(id(1, 5), "a", id(1, 1), id(1, 1))), api.ErrArg}, {g.Put(write(id(1, 5), "a", id(1, 5))), api.ErrArg}, {g.Put(write(id(1, 5), "a", id(2, 5))), api.ErrArg},
		{g.Put(Write{Id: id(1, 5), Content: bad}), api.ErrForm}, {g.Put(write(id(2, 5), "a", id(1, 1), id(2, 1), id(1, 5))), api.OK}, {g.Put(write(id(2, 5), "b")), api.ErrTwice}, {g.Put(Write{Id: id(2, 5), Content: bad}), api.ErrForm}, {g.Put(Write{Id: id(3, 1)}), api.OK},
	} {
		if c.got != c.want {
			t.Error(i, c)
		}
	}
	full := New()
	for i := range api.MaxOps {
		if full.Put(write(id(1, i+1), "x")) != api.OK {
			t.Fatal(i)
		}
	}
	if full.Put(write(id(2, 1), "x")) != api.ErrFull || full.Put(write(id(1, 1), "x")) != api.ErrTwice || full.Len() != api.MaxOps {
		t.Error("full")
	}
}

func TestP37_2_P37_3(t *testing.T) {
	g := New()
	a, b, c := id(1, 1), id(2, 2), id(3, 2)
	g.Put(write(c, "c", a))
	g.Put(write(a, "a"))
	g.Put(write(b, "b", a))
	for i, x := range []struct {
		gone  []api.Id
		text  string
		other []api.Id
	}{{nil, "c", []api.Id{b}}, {[]api.Id{c}, "b", nil}, {[]api.Id{b, c}, "a", nil}, {[]api.Id{a}, "c", []api.Id{b}}, {[]api.Id{a, b, c}, "", nil}, {[]api.Id{b}, "c", nil}} {
		if text, ids := told(g, x.gone...); text != x.text || !slices.Equal(ids, x.other) {
			t.Error(i, text, ids)
		}
	}
	if !slices.Equal(g.Ids(), []api.Id{a, b, c}) || g.Len() != 3 || !slices.Equal(g.Shown(nil), []api.Id{b, c}) {
		t.Error(g.Ids(), g.Shown(nil))
	}
	if con, l := g.Get(nil); con.Value.Text != "c" || len(l) != 1 || l[0].Content.Value.Text != "b" || !slices.Equal(l[0].Over, []api.Id{a}) {
		t.Error(con, l)
	} else {
		l[0].Over[0] = c
	}
	h := g.Clone()
	h.Put(write(id(1, 3), "new", c))
	if text, ids := told(h); text != "new" || !slices.Equal(ids, []api.Id{b}) || g.Len() != 3 || h.Len() != 4 {
		t.Error(text, ids)
	}
	in := Write{Id: id(1, 9), Content: api.Content{Kind: api.Formula, Tree: api.Node{Kind: api.Unary, Name: "-", L: []api.Node{{Value: value.Read("1")}}}}, Over: []api.Id{b, c}}
	g.Put(in)
	in.Content.Tree.L[0] = api.Node{}
	in.Over[0] = a
	out, _ := g.Get(nil)
	out.Tree.L[0] = api.Node{}
	if con, l := g.Get(nil); !cells.Right(con) || l != nil {
		t.Error("not apart")
	}
	var none *Reg
	var zero Reg
	for i, x := range []*Reg{none, &zero, New()} {
		con, l := x.Get(nil)
		if x.Len() != 0 || x.Ids() != nil || x.Shown(nil) != nil || !cells.Same(con, api.Content{}) || l != nil || x.Clone() == nil || x.Clone().Len() != 0 {
			t.Error(i)
		}
	}
	if zero.Put(write(a, "a")) != api.OK {
		t.Error("zero")
	}
}

func TestP37_3_any_order(t *testing.T) {
	r := rand.New(rand.NewSource(1))
	for range 500 {
		var l []Write
		for i := range 6 {
			var over []api.Id
			for _, w := range l {
				if r.Intn(2) == 0 {
					over = append(over, w.Id)
				}
			}
			l = append(l, write(id(1+r.Intn(3), i+1), string(rune('a'+i)), over...))
		}
		gone := map[api.Id]bool{}
		for _, w := range l {
			gone[w.Id] = r.Intn(3) == 0
		}
		isGone := func(x api.Id) bool { return gone[x] }
		g := New()
		for _, i := range r.Perm(len(l)) {
			g.Put(l[i])
		}
		var want []api.Id
		for _, w := range l {
			stands := !gone[w.Id]
			for _, x := range l {
				stands = stands && (gone[x.Id] || !slices.Contains(x.Over, w.Id))
			}
			if stands {
				want = append(want, w.Id)
			}
		}
		if !slices.Equal(g.Shown(isGone), want) {
			t.Fatal(g.Shown(isGone), want)
		}
	}
}
