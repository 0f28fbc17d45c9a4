package cycle

import (
	"math"
	"math/rand"
	"slices"
	"testing"
)

func TestP21_1(t *testing.T) {
	for n, want := range map[int]int{-1: 0, math.MinInt: 0, 0: 0, 3: 3, 10000: 10000, 10001: 10000, math.MaxInt: 10000} {
		if l := New(n).Order(); len(l) != want {
			t.Error(n, len(l))
		}
	}
	g := New(2)
	for i, c := range []struct{ got, want bool }{{g.Edge(0, 1), true}, {g.Edge(0, 1), false}, {g.Edge(1, 0), true}, {g.Edge(1, 1), true}, {g.Edge(0, 2), false}, {g.Edge(-1, 0), false}, {g.Edge(math.MaxInt, math.MinInt), false}} {
		if c.got != c.want {
			t.Error(i)
		}
	}
	for _, g := range []*Graph{nil, {}, New(0)} {
		if g.Edge(0, 0) || g.Parts() != nil || g.Order() != nil || g.Round(0) != nil || g.Reach(0, 1) != nil {
			t.Error("no nodes")
		}
	}
}

func TestExample(t *testing.T) {
	g := New(3)
	g.Edge(0, 1)
	g.Edge(1, 0)
	g.Edge(1, 2)
	if p := g.Parts(); len(p) != 2 || !slices.Equal(p[0], []int{0, 1}) || !slices.Equal(p[1], []int{2}) {
		t.Error(p)
	}
	if !slices.Equal(g.Order(), []int{2, 0, 1}) || !slices.Equal(g.Round(0), []int{0, 1}) || !slices.Equal(g.Round(1), []int{1, 0}) || g.Round(2) != nil {
		t.Error(g.Order(), g.Round(0))
	}
	p := g.Parts()
	p[0] = append(p[0][:1], 7)
	if q := g.Parts(); !slices.Equal(q[0], []int{0, 1}) || !slices.Equal(p[1], []int{2}) {
		t.Error("memory")
	}
	g.Edge(0, 0)
	if !slices.Equal(g.Round(0), []int{0}) || !slices.Equal(g.Reach(2, 0, 2, -1, 9), []int{0, 1, 2}) || !slices.Equal(g.Reach(2), []int{2}) || g.Reach() != nil || g.Reach(5) != nil {
		t.Error("self")
	}
}

func TestLong(t *testing.T) {
	g := New(10000)
	for i := range 9999 {
		g.Edge(i, i+1)
	}
	if l := g.Order(); l[0] != 9999 || len(g.Parts()) != 10000 {
		t.Error(l[0])
	}
	g.Edge(9999, 0)
	if len(g.Parts()) != 1 || len(g.Round(5)) != 10000 || len(g.Reach(77)) != 10000 {
		t.Error("ring")
	}
}

// rings tells all rings of x of at most n nodes, none of them twice.
func rings(to [][]bool, way []int, n int) (out [][]int) {
	last := way[len(way)-1]
	if to[last][way[0]] {
		out = append(out, slices.Clone(way))
	}
	if len(way) == n {
		return out
	}
	for y := range to {
		if to[last][y] && !slices.Contains(way, y) {
			out = append(out, rings(to, append(slices.Clone(way), y), n)...)
		}
	}
	return out
}

func TestP21_2_P21_3_P21_4(t *testing.T) {
	r := rand.New(rand.NewSource(1))
	for range 3000 {
		n := 1 + r.Intn(6)
		g := New(n)
		to, reach := make([][]bool, n), make([][]bool, n)
		for x := range to {
			to[x], reach[x] = make([]bool, n), make([]bool, n)
			reach[x][x] = true
		}
		for range r.Intn(10) {
			x, y := r.Intn(n), r.Intn(n)
			g.Edge(x, y)
			to[x][y], reach[x][y] = true, true
		}
		for k := range n {
			for x := range n {
				for y := range n {
					reach[x][y] = reach[x][y] || reach[x][k] && reach[k][y]
				}
			}
		}
		var parts [][]int
		done := make([]bool, n)
		for x := range n {
			var part, all []int
			for y := range n {
				if reach[x][y] {
					all = append(all, y)
				}
				if !done[x] && reach[x][y] && reach[y][x] {
					part = append(part, y)
				}
			}
			for _, y := range part {
				done[y] = true
			}
			if part != nil {
				parts = append(parts, part)
			}
			if !slices.Equal(g.Reach(x), all) {
				t.Fatal("reach")
			}
			best := []int(nil)
			for _, ring := range rings(to, []int{x}, n) {
				if best == nil || len(ring) < len(best) || len(ring) == len(best) && slices.Compare(ring, best) < 0 {
					best = ring
				}
			}
			if !slices.Equal(g.Round(x), best) {
				t.Fatal("round", x, g.Round(x), best)
			}
		}
		if !slices.EqualFunc(g.Parts(), parts, slices.Equal) {
			t.Fatal("parts", g.Parts(), parts)
		}
		var order []int
		for len(order) < n {
			for _, part := range parts {
				free := !slices.Contains(order, part[0])
				for _, x := range part {
					for y := range n {
						free = free && (!to[x][y] || slices.Contains(part, y) || slices.Contains(order, y))
					}
				}
				if free {
					order = append(order, part...)
					break
				}
			}
		}
		if !slices.Equal(g.Order(), order) {
			t.Fatal("order", g.Order(), order)
		}
	}
}
