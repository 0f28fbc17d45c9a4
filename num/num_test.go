package num

import (
	"math"
	"math/big"
	"math/rand"
	"strings"
	"testing"

	"counterpane/api"
)

func n(mant, exp int) api.Num { return api.Num{Mant: mant, Exp: exp} }

func tens(n int) *big.Rat {
	p := new(big.Int).Exp(big.NewInt(10), big.NewInt(int64(max(n, -n))), nil)
	if n < 0 {
		return new(big.Rat).SetFrac(big.NewInt(1), p)
	}
	return new(big.Rat).SetInt(p)
}

func exact(a api.Num) *big.Rat {
	r := new(big.Rat).SetInt64(int64(a.Mant))
	return r.Mul(r, tens(a.Exp))
}

// nearest tells the nearest multiple of ten to the power of exp, of two the even one.
func nearest(r *big.Rat, exp int) *big.Rat {
	q := new(big.Rat).Quo(r, tens(exp))
	two := big.NewInt(2)
	f := new(big.Int).Add(new(big.Int).Mul(q.Num(), two), q.Denom())
	down, rest := new(big.Int).DivMod(f, new(big.Int).Mul(q.Denom(), two), new(big.Int))
	if rest.Sign() == 0 && down.Bit(0) == 1 {
		down.Sub(down, big.NewInt(1))
	}
	return new(big.Rat).Mul(new(big.Rat).SetInt(down), tens(exp))
}

// rounded is the document's rounding, by fractions.
func rounded(r *big.Rat) (*big.Rat, bool) {
	if r.Sign() == 0 {
		return r, true
	}
	abs := new(big.Rat).Abs(r)
	f, _ := abs.Float64()
	top := int(math.Log10(f)) - 2
	for abs.Cmp(tens(top)) >= 0 {
		top++
	}
	r = nearest(nearest(r, top-15), -40)
	return r, new(big.Rat).Abs(r).Cmp(tens(40)) < 0
}

func some(r *rand.Rand) api.Num {
	m := r.Int63n(1e15)
	for range r.Intn(15) {
		m /= 10
	}
	if r.Intn(2) == 0 {
		m = -m
	}
	exp := r.Intn(12) - 6
	if r.Intn(3) == 0 {
		exp = r.Intn(81) - 41
	}
	a, _ := Make(int(m), exp)
	return a
}

func agrees(t *testing.T, what string, a api.Num, ok bool, want *big.Rat) {
	t.Helper()
	w, fits := rounded(want)
	if ok != fits || ok && (exact(a).Cmp(w) != 0 || !Right(a)) || !ok && a != n(0, 0) {
		t.Fatalf("%s: %v %v, want %v %v", what, a, ok, w, fits)
	}
}

func TestP1_1_P1_2_P1_5(t *testing.T) {
	r := rand.New(rand.NewSource(1))
	for range 30000 {
		a, b := some(r), some(r)
		if r.Intn(4) == 0 {
			b.Exp = a.Exp
			b, _ = Make(b.Mant, b.Exp)
		}
		x, y := exact(a), exact(b)
		c, ok := Add(a, b)
		agrees(t, "add", c, ok, new(big.Rat).Add(x, y))
		c, ok = Sub(a, b)
		agrees(t, "sub", c, ok, new(big.Rat).Sub(x, y))
		c, ok = Mul(a, b)
		agrees(t, "mul", c, ok, new(big.Rat).Mul(x, y))
		if b.Mant != 0 {
			c, ok = Div(a, b)
			agrees(t, "div", c, ok, new(big.Rat).Quo(x, y))
		}
		if Cmp(a, b) != x.Cmp(y) {
			t.Fatal(a, b)
		}
		if s := Text(a); len(s) > 60 {
			t.Fatal(s)
		} else if c, ok := Parse(s); !ok || c != a {
			t.Fatal(a, s, c)
		}
	}
	for range 20000 {
		m, exp := int(r.Uint64()), r.Intn(120)-70
		c, ok := Make(m, exp)
		agrees(t, "make", c, ok, new(big.Rat).Mul(new(big.Rat).SetInt64(int64(m)), tens(exp)))
	}
}

func TestP1_1_edges(t *testing.T) {
	for _, c := range []struct {
		a  api.Num
		ok bool
	}{{n(0, 0), true}, {n(0, 1), false}, {n(10, 0), false}, {n(1, 39), true}, {n(1, 40), false}, {n(-1, -40), true}, {n(-1, -41), false}, {n(999999999999999, 25), true}, {n(999999999999999, 26), false}, {n(1000000000000001, 0), false}, {n(math.MinInt, 0), false}, {n(1, math.MaxInt), false}, {n(1, math.MinInt), false}} {
		if Right(c.a) != c.ok {
			t.Error(c)
		}
	}
	for _, e := range []int{math.MaxInt, math.MinInt} {
		if a, ok := Make(0, e); a != n(0, 0) || !ok {
			t.Error(a, ok)
		}
		if a, ok := Make(7, e); a != n(0, 0) || ok != (e < 0) {
			t.Error(a, ok)
		}
	}
	bad := n(10, 0)
	for _, f := range []func(a, b api.Num) (api.Num, bool){Add, Sub, Mul, Div} {
		for _, p := range [][2]api.Num{{bad, n(1, 0)}, {n(1, 0), bad}, {n(1, math.MinInt), n(0, 9)}} {
			if c, ok := f(p[0], p[1]); c != n(0, 0) || ok {
				t.Error(p)
			}
		}
	}
	if _, ok := Pow(bad, 0); ok || Neg(bad) != n(0, 0) || Cmp(bad, n(1, 0)) != 0 || Cmp(n(1, 0), bad) != 0 || Round(bad, 0) != n(0, 0) || Floor(n(15, math.MinInt)) != n(0, 0) || Text(bad) != "" {
		t.Error("one that isn't right")
	}
	if k, ok := Int(bad); k != 0 || ok {
		t.Error(k)
	}
}

func TestP1_2_Pow(t *testing.T) {
	for _, c := range []struct {
		a  api.Num
		n  int
		w  api.Num
		ok bool
	}{{n(0, 0), 0, n(1, 0), true}, {n(0, 0), -1, n(0, 0), false}, {n(2, 0), 10, n(1024, 0), true}, {n(2, 0), -2, n(25, -2), true}, {n(1, 0), 1000, n(1, 0), true}, {n(1, 0), -1000, n(1, 0), true}, {n(1, 0), 1001, n(0, 0), false}, {n(1, 0), -1001, n(0, 0), false}, {n(1, 0), math.MinInt, n(0, 0), false}, {n(10, 0), 1, n(0, 0), false}, {n(1, 1), 40, n(0, 0), false}, {n(1, -1), 41, n(0, 0), true}, {n(1, -1), -41, n(0, 0), false}, {n(-1, 0), 3, n(-1, 0), true}} {
		if a, ok := Pow(c.a, c.n); a != c.w || ok != c.ok {
			t.Error(c, a, ok)
		}
	}
}

func TestP1_3(t *testing.T) {
	for _, c := range []struct {
		a      api.Num
		places int
		w      api.Num
	}{{n(125, -2), 1, n(13, -1)}, {n(-125, -2), 1, n(-13, -1)}, {n(6, 39), -40, n(6, 39)}, {n(4, 39), -40, n(0, 0)}, {n(7, 0), math.MaxInt, n(7, 0)}, {n(7, 0), math.MinInt, n(0, 0)}, {n(9, 39), -41, n(0, 0)}, {n(95, -1), 0, n(1, 1)}, {n(5, -1), 0, n(1, 0)}, {n(49, -2), 0, n(0, 0)}, {n(1, -40), 39, n(0, 0)}} {
		if a := Round(c.a, c.places); a != c.w {
			t.Error(c, a)
		}
	}
	for _, c := range [][2]api.Num{{n(-5, -1), n(-1, 0)}, {n(5, -1), n(0, 0)}, {n(-1, -40), n(-1, 0)}, {n(3, 2), n(3, 2)}, {n(-99, -1), n(-1, 1)}, {n(-999999999999999, -1), n(-1, 14)}} {
		if a := Floor(c[0]); a != c[1] {
			t.Error(c, a)
		}
	}
	for _, c := range []struct {
		a  api.Num
		k  int
		ok bool
	}{{n(12, 3), 12000, true}, {n(9, 18), 9e18, true}, {n(-9, 18), -9e18, true}, {n(1, 19), 0, false}, {n(-1, 19), 0, false}, {n(92, 17), 9200000000000000000, true}, {n(93, 17), 0, false}, {n(5, -1), 0, false}, {n(0, 0), 0, true}} {
		if k, ok := Int(c.a); k != c.k || ok != c.ok {
			t.Error(c, k, ok)
		}
	}
	if Neg(n(5, 1)) != n(-5, 1) || Neg(n(0, 0)) != n(0, 0) {
		t.Error("neg")
	}
}

func TestP1_4(t *testing.T) {
	for s, w := range map[string]api.Num{"-007.50": n(-75, -1), ".5": n(5, -1), "-.25e1": n(-25, -1), "1.5E+3": n(15, 2), "2e-3": n(2, -3), "0e99999999999999999999": n(0, 0), "-0": n(0, 0), "1e-99999999999999999999": n(0, 0), "0." + strings.Repeat("0", 200) + "1e201": n(1, 0), "1" + strings.Repeat("0", 200) + "e-200": n(1, 0), "1000000000000005": n(1, 15), "1000000000000005.000000001": n(100000000000001, 1)} {
		if a, ok := Parse(s); a != w || !ok {
			t.Error(s, a, ok)
		}
	}
	for _, s := range []string{"", "-", ".", "5.", "e5", "1e", "1e+", "1e+-5", "1e--5", "1e5.", "1e5e5", " 1", "1 ", "+1", "--1", "1.2.3", "1.e5", "-.e1", "1e40", "1e99999999999999999999", "é", "1é", "１", "\xff", strings.Repeat("0", 256)} {
		if a, ok := Parse(s); ok || a != n(0, 0) {
			t.Errorf("%q", s)
		}
	}
	if _, ok := Parse(strings.Repeat("0", 255)); !ok {
		t.Error("255 bytes")
	}
	for s, a := range map[string]api.Num{"0": n(0, 0), "0.005": n(5, -3), "-1.25": n(-125, -2), "30000": n(3, 4), "1.2": n(12, -1), "12": n(12, 0), "-0.5": n(-5, -1)} {
		if Text(a) != s {
			t.Error(s, Text(a))
		}
	}
}

func TestP1_5_order(t *testing.T) {
	r := rand.New(rand.NewSource(2))
	for range 5000 {
		a, b, c := some(r), some(r), some(r)
		x, okX := Add(a, c)
		y, okY := Add(b, c)
		if okX && okY && Cmp(a, b) <= 0 && Cmp(x, y) > 0 {
			t.Fatal(a, b, c)
		}
	}
}
