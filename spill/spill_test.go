package spill

import (
	"math"
	"math/rand"
	"slices"
	"testing"

	"counterpane/api"
)

func TestP23_1(t *testing.T) {
	for n, want := range map[int]int{-1: 0, 0: 0, 5: 5, 1000: 1000, 1001: 1000, math.MaxInt: 1000, math.MinInt: 0} {
		b := New(n, 7)
		if b.Fill(want-1, 6) != (want > 0) || b.Fill(want, 0) || b.Fill(0, 7) || b.Fill(-1, 0) || b.Fill(0, -1) {
			t.Error(n)
		}
		c := New(7, n)
		if c.Fill(6, want-1) != (want > 0) || c.Fill(0, want) {
			t.Error(n)
		}
	}
	b := New(2, 2)
	if !b.Fill(0, 0) || !b.Fill(0, 0) {
		t.Error("twice")
	}
	b.Decide(0, 0, 1, 1)
	if b.Fill(0, 0) || b.Fill(1, 1) {
		t.Error("something was decided")
	}
}

func TestP23_2(t *testing.T) {
	b := New(3, 3)
	b.Fill(0, 0)
	b.Fill(2, 1)
	for i, c := range []struct {
		p      [4]int
		stands bool
		e      api.Errno
	}{
		{[4]int{3, 0, 1, 1}, false, api.ErrRange}, {[4]int{0, -1, 1, 1}, false, api.ErrRange}, {[4]int{0, 0, 0, 1}, false, api.ErrRange}, {[4]int{0, 0, 1, -1}, false, api.ErrRange}, {[4]int{1, 1, 64, 65}, false, api.ErrRange}, {[4]int{0, 0, math.MaxInt, 2}, false, api.ErrRange}, {[4]int{0, 0, 1 << 32, 1 << 32}, false, api.ErrRange}, {[4]int{1, 1, 1, 1}, false, api.ErrNone},
		{[4]int{0, 0, 2, 2}, true, api.OK}, {[4]int{2, 1, 1, 2}, true, api.OK}, {[4]int{2, 1, 1, 1}, false, api.ErrTwice}, {[4]int{0, 0, 0, 1}, false, api.ErrRange},
	} {
		if stands, e := b.Decide(c.p[0], c.p[1], c.p[2], c.p[3]); stands != c.stands || e != c.e {
			t.Error(i, stands, e)
		}
	}
	if r, stands, ok := b.Decided(2, 1); r != (Rect{2, 1, 1, 2}) || !stands || !ok {
		t.Error(r)
	}
}

func TestP23_3(t *testing.T) {
	b := New(3, 3)
	b.Fill(0, 0)
	b.Fill(2, 1)
	b.Fill(0, 2)
	if stands, e := b.Decide(0, 0, 3, 2); stands || e != api.OK {
		t.Error(e)
	}
	if row, col, ok := b.Blocker(0, 0); row != 2 || col != 1 || !ok {
		t.Error(row, col)
	}
	if stands, _ := b.Decide(2, 1, 2, 1); stands {
		t.Error("beyond")
	}
	if row, col, ok := b.Blocker(2, 1); row != 0 || col != 0 || ok {
		t.Error("beyond", row, col)
	}
	if stands, _ := b.Decide(0, 2, 3, 1); !stands {
		t.Error("free")
	}
	var l []Rect
	var stand []bool
	for r, s := range b.Rects() {
		l, stand = append(l, r), append(stand, s)
	}
	if !slices.Equal(l, []Rect{{0, 0, 3, 2}, {2, 1, 2, 1}, {0, 2, 3, 1}}) || !slices.Equal(stand, []bool{false, false, true}) {
		t.Error(l, stand)
	}
	for range b.Rects() {
		break
	}
	if r, stands, ok := b.Decided(0, 0); r != l[0] || stands || !ok {
		t.Error(r)
	}
	if r, stands, ok := b.Decided(1, 1); r != (Rect{}) || stands || ok {
		t.Error(r)
	}
	if r, ok := b.Owner(2, 2); r != l[2] || !ok {
		t.Error(r)
	}
	for _, p := range [][2]int{{0, 0}, {1, 1}, {-1, 0}, {9, 9}} {
		if r, ok := b.Owner(p[0], p[1]); ok || r != (Rect{}) {
			t.Error(p)
		}
	}
	if _, _, ok := b.Blocker(0, 2); ok {
		t.Error("it stands")
	}
	if _, _, ok := b.Blocker(1, 1); ok {
		t.Error("none decided")
	}
	// Who blocks is told as it was when that was decided.
	c := New(2, 3)
	c.Fill(0, 0)
	c.Fill(1, 1)
	c.Fill(0, 1)
	c.Decide(0, 0, 1, 2)
	c.Decide(1, 1, 1, 2)
	c.Decide(0, 1, 2, 2)
	if row, col, ok := c.Blocker(0, 1); row != 1 || col != 1 || !ok {
		t.Error(row, col)
	}
}

func TestP23_4(t *testing.T) {
	r := rand.New(rand.NewSource(1))
	for range 2000 {
		b := New(5, 5)
		content := map[[2]int]bool{}
		for range 6 {
			p := [2]int{r.Intn(5), r.Intn(5)}
			content[p] = true
			b.Fill(p[0], p[1])
		}
		for range 20 {
			b.Decide(r.Intn(5), r.Intn(5), 1+r.Intn(4), 1+r.Intn(4))
		}
		owned := map[[2]int]Rect{}
		for x, stands := range b.Rects() {
			for i := range x.Rows {
				for j := range x.Cols {
					p := [2]int{x.Row + i, x.Col + j}
					if !stands {
						continue
					}
					if _, had := owned[p]; had || content[p] && i+j > 0 || p[0] > 4 || p[1] > 4 {
						t.Fatal(x)
					}
					owned[p] = x
				}
			}
		}
		for row := range 5 {
			for col := range 5 {
				want, has := owned[[2]int{row, col}]
				if got, ok := b.Owner(row, col); got != want || ok != has {
					t.Fatal(row, col)
				}
				x, stands, decided := b.Decided(row, col)
				p, q, blocked := b.Blocker(row, col)
				if beyond := x.Row+x.Rows > 5 || x.Col+x.Cols > 5; blocked != (decided && !stands && !beyond) {
					t.Fatal(x)
				}
				if _, has := owned[[2]int{p, q}]; blocked && !has && !content[[2]int{p, q}] {
					t.Fatal(x)
				}
			}
		}
	}
	var none *Board
	for i, b := range []*Board{none, {}} {
		_, e := b.Decide(0, 0, 1, 1)
		_, _, ok := b.Decided(0, 0)
		_, ok2 := b.Owner(0, 0)
		_, _, ok3 := b.Blocker(0, 0)
		if b.Fill(0, 0) || e != api.ErrRange || ok || ok2 || ok3 {
			t.Error(i)
		}
		for range b.Rects() {
			t.Error(i)
		}
	}
}
