package shape

import (
	"math"
	"slices"
	"testing"

	"counterpane/api"
	"counterpane/value"
)

func n(k int) api.Value {
	if k%10 == 0 && k != 0 {
		return value.Of(api.Num{Mant: k / 10, Exp: 1})
	}
	return value.Of(api.Num{Mant: k})
}

// arr tells an array of numbers; below 0 a fault, of 99 Blank.
func arr(rows, cols int, l ...int) api.Array {
	a := api.Array{Rows: rows, Cols: cols}
	for _, k := range l {
		switch {
		case k < 0:
			a.L = append(a.L, value.Bad(-k))
		case k == 99:
			a.L = append(a.L, api.Value{})
		default:
			a.L = append(a.L, n(k))
		}
	}
	return a
}

func many(rows, cols int) api.Array {
	return api.Array{Rows: rows, Cols: cols, L: slices.Repeat([]api.Value{n(1)}, rows*cols)}
}

var wrong = []api.Array{{}, {Rows: 1, Cols: 1}, {Rows: 0, Cols: 1}, {Rows: -1, Cols: -1, L: []api.Value{{}}}, {Rows: 1, Cols: 2, L: []api.Value{{}}}, {Rows: 1, Cols: 1, L: []api.Value{{Kind: 9}}}, many(1, 4097), {Rows: math.MaxInt, Cols: 2}, {Rows: 1 << 32, Cols: 1 << 32}, {Rows: math.MinInt, Cols: math.MinInt}}

func TestP9_1(t *testing.T) {
	for i, a := range wrong {
		if Right(a) {
			t.Error(i)
		}
		if b, ok := Make(a.Rows, a.Cols, a.L...); ok || !Same(b, api.Array{}) {
			t.Error(i, b)
		}
	}
	for _, a := range []api.Array{many(1, 4096), many(64, 64), arr(1, 1, 99), arr(2, 1, -1, 5)} {
		b, ok := Make(a.Rows, a.Cols, a.L...)
		if !Right(a) || !ok || !Same(a, b) {
			t.Error(a)
		}
		b.L[0] = n(7)
		if Same(a, b) {
			t.Error("not apart")
		}
	}
	if !Same(One(n(5)), arr(1, 1, 5)) || !Same(One(api.Value{Kind: 9}), arr(1, 1, -9)) || Same(arr(1, 2, 1, 2), arr(2, 1, 1, 2)) || Same(arr(1, 1, 1), arr(1, 1, 2)) || !Same(wrong[1], api.Array{Rows: 1, Cols: 1, L: []api.Value{}}) {
		t.Error("same")
	}
}

func TestP9_2(t *testing.T) {
	a := arr(2, 3, 1, 2, -3, 4, -2, 6)
	for i := range 6 {
		if v, ok := At(a, i/3, i%3); v != a.L[i] || !ok {
			t.Error(i)
		}
	}
	for _, p := range [][2]int{{-1, 0}, {0, -1}, {2, 0}, {0, 3}, {math.MaxInt, math.MaxInt}, {math.MinInt, 0}} {
		if v, ok := At(a, p[0], p[1]); ok || v != (api.Value{}) {
			t.Error(p)
		}
	}
	if f, ok := First(a); f != 3 || !ok {
		t.Error(f)
	}
	if f, ok := First(arr(1, 2, 1, 99)); f != 0 || ok {
		t.Error(f)
	}
	if !Same(Turn(a), arr(3, 2, 1, 4, 2, -2, -3, 6)) {
		t.Error(Turn(a))
	}
	if p, ok := Part(a, 0, 1, 2, 2); !ok || !Same(p, arr(2, 2, 2, -3, -2, 6)) {
		t.Error(p)
	}
	for _, p := range [][4]int{{0, 0, 0, 1}, {0, 0, 1, 0}, {-1, 0, 1, 1}, {0, -1, 1, 1}, {1, 0, 2, 1}, {0, 2, 1, 2}, {2, 0, 1, 1}, {0, 0, math.MaxInt, 1}, {math.MaxInt, 0, math.MaxInt, 1}, {0, 0, 1, math.MinInt}, {math.MinInt, 0, 1, 1}} {
		if b, ok := Part(a, p[0], p[1], p[2], p[3]); ok || !Same(b, api.Array{}) {
			t.Error(p)
		}
	}
	id := func(v api.Value) api.Value { return v }
	both := func(x, y api.Value) api.Value { return x }
	for i, w := range wrong {
		_, a1 := At(w, 0, 0)
		_, a2 := First(w)
		_, a3 := Part(w, 0, 0, 1, 1)
		_, a4 := Beside(w, a)
		_, a5 := Beside(a, w)
		_, a6 := Below(w, a)
		_, a7 := Below(a, w)
		_, _, a8 := Common(w, a)
		_, _, a9 := Common(a, w)
		if a1 || a2 || a3 || a4 || a5 || a6 || a7 || a8 || a9 {
			t.Error(i)
		}
		for _, b := range []api.Array{Turn(w), Each(w, id), Both(w, a, both), Both(a, w, both)} {
			if !Same(b, arr(1, 1, -9)) {
				t.Error(i, b)
			}
		}
	}
}

func TestP9_3(t *testing.T) {
	a, b := arr(2, 1, 1, 2), arr(1, 2, 3, 4)
	if c, ok := Beside(a, b); !ok || !Same(c, arr(2, 3, 1, 3, 4, 2, -6, -6)) {
		t.Error(c)
	}
	if c, ok := Beside(b, a); !ok || !Same(c, arr(2, 3, 3, 4, 1, -6, -6, 2)) {
		t.Error(c)
	}
	if c, ok := Below(a, b); !ok || !Same(c, arr(3, 2, 1, -6, 2, -6, 3, 4)) {
		t.Error(c)
	}
	if _, ok := Beside(many(1, 4096), a); ok {
		t.Error("too many")
	}
	if _, ok := Below(many(4096, 1), a); ok {
		t.Error("too many")
	}
	if _, ok := Below(many(2048, 1), many(2048, 1)); !ok {
		t.Error("just as many")
	}
	if r, c, ok := Common(a, b); r != 2 || c != 2 || !ok {
		t.Error(r, c)
	}
	if r, c, ok := Common(many(64, 1), many(1, 65)); r != 0 || c != 0 || ok {
		t.Error(r, c)
	}
}

func TestP9_4(t *testing.T) {
	var asked []api.Value
	a := arr(2, 2, 1, 2, 3, 4)
	got := Each(a, func(v api.Value) api.Value {
		asked = append(asked, v)
		if v == n(3) {
			return api.Value{Kind: 77}
		}
		return value.Truth(true)
	})
	if !slices.Equal(asked, a.L) || got.L[2] != value.Bad(9) || got.L[3] != value.Truth(true) || !Same(Each(a, nil), arr(2, 2, -9, -9, -9, -9)) {
		t.Error(asked, got)
	}
	var pairs [][2]api.Value
	note := func(x, y api.Value) api.Value {
		pairs = append(pairs, [2]api.Value{x, y})
		return y
	}
	if got := Both(arr(1, 2, 1, 2), arr(2, 1, 5, 6), note); !Same(got, arr(2, 2, 5, 5, 6, 6)) || !slices.Equal(pairs, [][2]api.Value{{n(1), n(5)}, {n(2), n(5)}, {n(1), n(6)}, {n(2), n(6)}}) {
		t.Error(got, pairs)
	}
	pairs = nil
	if got := Both(arr(1, 3, 1, 2, 3), arr(1, 2, 4, 5), note); !Same(got, arr(1, 3, 4, 5, -6)) || len(pairs) != 2 {
		t.Error(got, pairs)
	}
	pairs = nil
	if got := Both(arr(2, 3, 1, 2, 3, 4, 5, 6), arr(3, 1, 7, 8, 9), note); !Same(got, arr(3, 3, 7, 7, 7, 8, 8, 8, -6, -6, -6)) || len(pairs) != 6 {
		t.Error(got)
	}
	pairs = nil
	if got := Both(many(64, 1), many(1, 65), note); !Same(got, arr(1, 1, -5)) || len(pairs) != 0 {
		t.Error(got)
	}
	if got := Both(arr(1, 2, 1, 2), arr(1, 3, 1, 2, 3), nil); !Same(got, arr(1, 3, -9, -9, -6)) {
		t.Error(got)
	}
	if got := Both(arr(1, 1, 1), arr(1, 1, 2), func(x, y api.Value) api.Value { return api.Value{Fault: 3} }); !Same(got, arr(1, 1, -9)) {
		t.Error(got)
	}
}
