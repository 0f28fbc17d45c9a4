package seqc

import (
	"math/rand"
	"slices"
	"testing"

	"counterpane/api"
	"counterpane/axis"
)

func id(author, n int) api.Id { return api.Id{Author: author, N: n} }

func all(q *Shared) []api.Id { return slices.Collect(q.All()) }

func live(a *axis.Axis) (l []api.Id) {
	for x, isLive := range a.All() {
		if isLive {
			l = append(l, x)
		}
	}
	return
}

func TestP36_1(t *testing.T) {
	a, b := id(0, 1), id(0, 2)
	q := New(a, api.Id{}, b, a)
	for i, c := range []struct{ got, want api.Errno }{
		{q.Insert(a, api.Id{}), api.ErrArg}, {q.Insert(id(9, 9), a), api.ErrTwice}, {q.Insert(id(9, 9), id(1, 1)), api.ErrNone}, {q.Insert(a, id(1, 1)), api.OK}, {q.Insert(b, id(1, 1)), api.ErrTwice}, {q.Insert(api.Id{}, id(2, 1)), api.OK},
		{q.Delete(a, api.Id{}), api.ErrArg}, {q.Delete(id(9, 9), id(1, 2)), api.ErrNone}, {q.Delete(api.Id{}, id(1, 2)), api.ErrNone}, {q.Delete(a, id(1, 2)), api.OK}, {q.Delete(b, id(1, 2)), api.ErrTwice}, {q.Delete(id(9, 9), id(1, 2)), api.ErrNone}, {q.Delete(a, id(1, 3)), api.OK},
	} {
		if c.got != c.want {
			t.Error(i, c)
		}
	}
	if !slices.Equal(all(q), []api.Id{id(2, 1), a, id(1, 1), b}) || !q.Has(a) || !q.Has(id(1, 1)) || q.Has(id(1, 2)) || q.Has(api.Id{}) {
		t.Error(all(q))
	}
	var many []api.Id
	for i := range 1005 {
		many = append(many, id(0, i+1))
	}
	full := New(many...)
	if len(all(full)) != 1000 || full.Insert(a, id(1, 1)) != api.ErrFull || full.Insert(id(9, 9), id(1, 1)) != api.ErrNone {
		t.Error("full")
	}
	many[0] = id(7, 7)
	if full.Has(id(7, 7)) {
		t.Error("kept")
	}
}

func TestP36_2(t *testing.T) {
	a, b := id(0, 1), id(0, 2)
	q := New(a, b)
	q.Insert(a, id(1, 1))
	q.Delete(a, id(1, 2))
	q.Delete(a, id(2, 3))
	q.Delete(id(1, 1), id(2, 4))
	for i, c := range []struct {
		gone []api.Id
		want []api.Id
	}{{nil, []api.Id{b}}, {[]api.Id{id(1, 2)}, []api.Id{b}}, {[]api.Id{id(1, 2), id(2, 3)}, []api.Id{a, b}}, {[]api.Id{id(2, 4)}, []api.Id{id(1, 1), b}}, {[]api.Id{id(2, 4), id(1, 1)}, []api.Id{b}}, {[]api.Id{id(1, 1), a, b}, []api.Id{b}}} {
		x := q.Axis(func(deed api.Id) bool {
			if deed == a || deed == b {
				t.Error("asked of a first one")
			}
			return slices.Contains(c.gone, deed)
		})
		if !slices.Equal(live(x), c.want) {
			t.Error(i, live(x))
		}
		var l []api.Id
		for id := range x.All() {
			l = append(l, id)
		}
		if !slices.Equal(l, all(q)) {
			t.Error(l)
		}
	}
	if !slices.Equal(live(q.Axis(nil)), []api.Id{b}) {
		t.Error("nil")
	}
	for range q.All() {
		break
	}
	x := q.Axis(nil)
	x.Insert(b, id(5, 5))
	c := q.Clone()
	c.Insert(b, id(6, 6))
	c.Delete(b, id(6, 7))
	if q.Has(id(5, 5)) || q.Has(id(6, 6)) || !slices.Equal(live(q.Axis(nil)), []api.Id{b}) || !slices.Equal(live(c.Axis(nil)), []api.Id{id(6, 6)}) {
		t.Error("not apart")
	}
	var none *Shared
	if none.Insert(a, b) != api.ErrArg || none.Delete(a, b) != api.ErrArg || none.Has(a) || all(none) != nil || none.Axis(nil) == nil || none.Axis(nil).Len() != 0 || none.Clone() == nil || all(none.Clone()) != nil {
		t.Error("nil")
	}
	var zero Shared
	if zero.Has(a) || zero.Insert(api.Id{}, a) != api.OK || !zero.Has(a) {
		t.Error("zero")
	}
}

func TestExample(t *testing.T) {
	a, b := id(0, 1), id(0, 2)
	q := New(a, b)
	q.Insert(a, id(1, 1))
	q.Insert(a, id(2, 1))
	if !slices.Equal(all(q), []api.Id{a, id(2, 1), id(1, 1), b}) {
		t.Error(all(q))
	}
	q.Insert(a, id(1, 2))
	if !slices.Equal(all(q), []api.Id{a, id(1, 2), id(2, 1), id(1, 1), b}) {
		t.Error(all(q))
	}
}

func TestP36_3(t *testing.T) {
	r := rand.New(rand.NewSource(1))
	for range 500 {
		q := New(id(0, 1), id(0, 2))
		type deed struct{ behind, id api.Id }
		var deeds []deed
		for i := range 12 {
			l := append(all(q), api.Id{})
			d := deed{l[r.Intn(len(l))], id(1+r.Intn(3), 1+r.Intn(9))}
			before := all(q)
			if q.Insert(d.behind, d.id) != api.OK {
				continue
			}
			deeds = append(deeds, d)
			after := all(q)
			at := slices.Index(after, d.id)
			if without := slices.Delete(slices.Clone(after), at, at+1); !slices.Equal(before, without) {
				t.Fatal("the others stand otherwise", i)
			}
			greatest := true
			for _, x := range deeds[:len(deeds)-1] {
				greatest = greatest && (x.id.N < d.id.N || x.id.N == d.id.N && x.id.Author < d.id.Author)
			}
			if want := slices.Index(after, d.behind) + 1; greatest && at != want {
				t.Fatal("not right behind")
			}
		}
		other := New(id(0, 1), id(0, 2))
		for done := 0; done < len(deeds); {
			d := deeds[r.Intn(len(deeds))]
			if other.Insert(d.behind, d.id) == api.OK {
				done++
			}
		}
		if !slices.Equal(all(q), all(other)) {
			t.Fatal(all(q), all(other))
		}
	}
}
