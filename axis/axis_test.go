package axis

import (
	"math"
	"math/rand"
	"slices"
	"testing"

	"counterpane/api"
)

func id(n int) api.Id { return api.Id{Author: 1, N: n} }

func ids(a *Axis) (l []api.Id, live []bool) {
	for x, y := range a.All() {
		l, live = append(l, x), append(live, y)
	}
	return
}

func TestP3_1(t *testing.T) {
	a := New(id(1), api.Id{}, id(2), id(1), api.Id{N: 3})
	if l, live := ids(a); !slices.Equal(l, []api.Id{id(1), id(2), {N: 3}}) || slices.Contains(live, false) {
		t.Fatal(l, live)
	}
	for i, c := range []struct{ got, want api.Errno }{
		{a.Insert(id(9), api.Id{}), api.ErrArg}, {a.Insert(id(9), id(1)), api.ErrTwice}, {a.Insert(id(9), id(8)), api.ErrNone},
		{a.Insert(id(1), id(4)), api.OK}, {a.Insert(api.Id{}, id(5)), api.OK}, {a.Delete(id(1)), api.OK}, {a.Insert(id(1), id(6)), api.OK},
		{a.Delete(id(77)), api.ErrNone}, {a.Delete(id(1)), api.ErrState}, {a.Revive(id(2)), api.ErrState}, {a.Revive(api.Id{}), api.ErrNone}, {a.Insert(id(2), id(1)), api.ErrTwice},
	} {
		if c.got != c.want {
			t.Error(i, c)
		}
	}
	l, live := ids(a)
	if !slices.Equal(l, []api.Id{id(5), id(1), id(6), id(4), id(2), {N: 3}}) || !slices.Equal(live, []bool{true, false, true, true, true, true}) {
		t.Error(l, live)
	}
	if a.Revive(id(1)) != api.OK || a.Len() != 6 {
		t.Error("revive")
	}
	many := make([]api.Id, 1005)
	for i := range many {
		many[i] = id(i + 1)
	}
	b := New(many...)
	if b.Len() != api.MaxAxis || b.Has(id(1001)) || b.Insert(id(5), id(2000)) != api.ErrFull || b.Insert(id(5000), id(2000)) != api.ErrNone {
		t.Error("full")
	}
	many[0] = id(7777)
	if !b.Has(id(1)) {
		t.Error("kept what was handed in")
	}
	if b.Delete(id(1)) != api.OK || b.Insert(id(5), id(2000)) != api.ErrFull {
		t.Error("dead ones count")
	}
}

func TestP3_2(t *testing.T) {
	a := New(id(1), id(2), id(3), id(4))
	a.Delete(id(2))
	for i, want := range []api.Id{id(1), id(3), id(4)} {
		if x, ok := a.At(i); x != want || !ok {
			t.Error(i, x)
		}
		if p, ok := a.Place(want); p != i || !ok {
			t.Error(want, p)
		}
	}
	for _, p := range []int{-1, 3, math.MaxInt, math.MinInt} {
		if x, ok := a.At(p); ok || x != (api.Id{}) {
			t.Error(p)
		}
	}
	for _, x := range []api.Id{id(2), id(9), {}} {
		if p, ok := a.Place(x); ok || p != 0 {
			t.Error(x)
		}
	}
	if !a.Has(id(2)) || a.Has(id(9)) || a.Has(api.Id{}) || a.Len() != 3 {
		t.Error("has")
	}
	for _, c := range []struct {
		from, to api.Id
		want     []api.Id
	}{{id(1), id(4), []api.Id{id(1), id(3), id(4)}}, {id(4), id(3), []api.Id{id(3), id(4)}}, {id(2), id(3), []api.Id{id(3)}}, {id(2), id(2), nil}, {id(1), id(9), nil}, {api.Id{}, id(1), nil}} {
		got := a.Between(c.from, c.to)
		if !slices.Equal(got, c.want) {
			t.Error(c, got)
		}
		for i := range got {
			got[i] = id(99)
		}
	}
	if a.Has(id(99)) {
		t.Error("an answer is the axis' own")
	}
	for range a.All() {
		break
	}
	for x, live := range a.All() { // changes meanwhile don't disturb
		if live {
			a.Delete(x)
		}
	}
	if a.Len() != 0 {
		t.Error("all deleted")
	}
}

func TestP3_2_at_random(t *testing.T) {
	r := rand.New(rand.NewSource(1))
	a := New(id(1))
	next := 2
	for range 2000 {
		l, _ := ids(a)
		x := l[r.Intn(len(l))]
		switch r.Intn(3) {
		case 0:
			if a.Insert(x, id(next)) == api.OK {
				next++
			}
		case 1:
			a.Delete(x)
		case 2:
			a.Revive(x)
		}
		l, live := ids(a)
		n := 0
		for i, x := range l {
			p, ok := a.Place(x)
			if ok != live[i] || ok && p != n {
				t.Fatal(x)
			}
			if ok {
				if y, _ := a.At(n); y != x {
					t.Fatal(x)
				}
				n++
			}
		}
		if n != a.Len() {
			t.Fatal(n)
		}
		if len(l) > 60 {
			a, next = New(id(1)), 2
		}
	}
}

func TestP3_3(t *testing.T) {
	a := New(id(1), id(2))
	a.Delete(id(1))
	b := a.Clone()
	b.Revive(id(1))
	b.Insert(id(2), id(3))
	a.Insert(id(2), id(4))
	if a.Len() != 2 || b.Len() != 3 || b.Has(id(4)) || a.Has(id(3)) {
		t.Error("not apart")
	}
	var none *Axis
	if none.Insert(id(1), id(2)) != api.ErrArg || none.Delete(id(1)) != api.ErrArg || none.Revive(id(1)) != api.ErrArg || none.Len() != 0 || none.Has(id(1)) || none.Between(id(1), id(1)) != nil {
		t.Error("nil")
	}
	if _, ok := none.At(0); ok {
		t.Error("nil at")
	}
	if _, ok := none.Place(id(1)); ok {
		t.Error("nil place")
	}
	for range none.All() {
		t.Error("nil all")
	}
	c := none.Clone()
	if c == nil || c.Len() != 0 || c.Insert(api.Id{}, id(1)) != api.OK {
		t.Error("clone of nil")
	}
	var zero Axis
	if zero.Len() != 0 || zero.Insert(api.Id{}, id(1)) != api.OK || zero.Len() != 1 {
		t.Error("zero")
	}
}

func TestLiveAndSpan(t *testing.T) {
	a := New(id(1), id(2), id(3))
	a.Delete(id(2))
	if !slices.Equal(a.Live(), []api.Id{id(1), id(3)}) || !slices.Equal(a.Span(api.Id{}, id(9)), []api.Id{id(1), id(3)}) || !slices.Equal(a.Span(id(3), id(2)), []api.Id{id(3)}) || a.Span(id(9), id(1)) != nil {
		t.Error(a.Live())
	}
	var none *Axis
	if none.Live() != nil || none.Span(api.Id{}, api.Id{}) != nil {
		t.Error("nil")
	}
}
