package dot

import (
	"math"
	"math/rand"
	"slices"
	"testing"

	"counterpane/api"
)

func id(author, n int) api.Id { return api.Id{Author: author, N: n} }

func told(s *Seen) (l [][2]int) {
	for a, n := range s.All() {
		l = append(l, [2]int{a, n})
	}
	return
}

func TestP34_1(t *testing.T) {
	rising := []api.Id{id(5, math.MinInt), id(0, 0), id(-1, 1), id(1, 1), id(2, 1), id(1, 2), id(1000, 2), id(0, math.MaxInt)}
	for i, a := range rising {
		for j, b := range rising {
			if Before(a, b) != (i < j) {
				t.Error(a, b)
			}
		}
	}
	s := New()
	for i, c := range []struct {
		x  api.Id
		ok bool
	}{{id(2, 5), true}, {id(2, 5), false}, {id(2, 4), false}, {id(0, 1), false}, {id(1001, 1), false}, {id(-1, 5), false}, {id(1, 0), false}, {id(1, -5), false}, {id(1000, 1), true}, {id(2, 6), true}, {api.Id{}, false}} {
		if s.Add(c.x) != c.ok {
			t.Error(i)
		}
	}
	for x, want := range map[api.Id]bool{id(2, 3): true, id(2, 6): true, id(2, 7): false, id(1, 1): false, id(2, 0): false, id(2, -1): false, id(0, 0): false, id(1001, 0): false, id(1000, 1): true} {
		if s.Has(x) != want {
			t.Error(x)
		}
	}
}

func TestP34_2(t *testing.T) {
	s := New()
	if s.Next(3) != id(3, 1) {
		t.Error(s.Next(3))
	}
	s.Add(id(2, 5))
	for author, want := range map[int]api.Id{1: id(1, 6), 2: id(2, 6), 1000: id(1000, 6), 0: {}, 1001: {}, -1: {}, math.MinInt: {}} {
		if s.Next(author) != want {
			t.Error(author, s.Next(author))
		}
	}
	a := New()
	a.Add(id(1, math.MaxInt))
	if a.Next(1) != (api.Id{}) || a.Next(2) != (api.Id{}) {
		t.Error("no such N")
	}
	r := rand.New(rand.NewSource(1))
	for range 500 {
		x, y := New(), New()
		nx, ny := map[int]int{}, map[int]int{}
		for range 4 {
			i, j := id(1+r.Intn(3), 1+r.Intn(4)), id(1+r.Intn(3), 1+r.Intn(4))
			x.Add(i)
			y.Add(j)
			nx[i.Author], ny[j.Author] = max(nx[i.Author], i.N), max(ny[j.Author], j.N)
		}
		covers := true
		for a, n := range ny {
			covers = covers && n <= nx[a]
		}
		if x.Covers(y) != covers {
			t.Fatal(told(x), told(y))
		}
		z := x.Clone()
		z.Join(y)
		if !z.Covers(x) || !z.Covers(y) {
			t.Fatal("join")
		}
		for a := 1; a < 4; a++ {
			n := max(nx[a], ny[a])
			if n > 0 && (!z.Has(id(a, n)) || z.Has(id(a, n+1))) {
				t.Fatal("join")
			}
			if nx[a] > 0 && x.Has(id(a, nx[a]+1)) {
				t.Fatal("the clone isn't apart")
			}
		}
		x.Join(x)
	}
	s.Add(id(1, 1))
	if !slices.Equal(told(s), [][2]int{{1, 1}, {2, 5}}) {
		t.Error(told(s))
	}
	for range s.All() {
		break
	}
}

func TestP34_3(t *testing.T) {
	var none *Seen
	some := New()
	some.Add(id(1, 1))
	none.Join(some)
	if none.Add(id(1, 1)) || none.Has(id(1, 1)) || none.Next(2) != id(2, 1) || none.Next(0) != (api.Id{}) || none.Covers(some) || !none.Covers(none) || !none.Covers(New()) || !some.Covers(none) || told(none) != nil {
		t.Error("nil")
	}
	some.Join(nil)
	c := none.Clone()
	if c == nil || told(c) != nil || !c.Add(id(1, 1)) || !slices.Equal(told(some), told(c)) {
		t.Error("clone of nil")
	}
	var zero Seen
	if zero.Has(id(1, 1)) || !zero.Add(id(1, 1)) || !zero.Has(id(1, 1)) {
		t.Error("zero")
	}
}
