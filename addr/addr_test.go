package addr

import (
	"math"
	"math/rand"
	"testing"
)

func TestP4_1(t *testing.T) {
	for col, s := range map[int]string{0: "A", 25: "Z", 26: "AA", 27: "AB", 701: "ZZ", 702: "AAA", 18277: "ZZZ", -1: "", 18278: "", math.MaxInt: "", math.MinInt: ""} {
		if Letters(col) != s {
			t.Error(col, Letters(col))
		}
	}
	last := ""
	for col := range 18278 {
		s := Letters(col)
		if c, ok := Column(s); c != col || !ok || len(s) < len(last) || len(s) == len(last) && s <= last {
			t.Fatal(col, s)
		}
		last = s
	}
	if c, ok := Column("aB"); c != 27 || !ok {
		t.Error(c)
	}
	for _, s := range []string{"", "AAAA", "A1", "$A", "é", " A", "\xff", "@", "["} {
		if c, ok := Column(s); ok || c != 0 {
			t.Error(s)
		}
	}
}

func TestP4_2(t *testing.T) {
	for s, m := range map[string]Mark{"A1": {}, "$B3": {2, 1, false, true}, "B$3": {2, 1, true, false}, "$ZZZ$9999999": {9999998, 18277, true, true}} {
		if Text(m) != s {
			t.Error(s, Text(m))
		}
		if x, ok := Parse(s); x != m || !ok {
			t.Error(s, x)
		}
	}
	if x, ok := Parse("$zz$10"); x != (Mark{9, 701, true, true}) || !ok {
		t.Error(x)
	}
	for _, m := range []Mark{{-1, 0, false, false}, {0, -1, false, false}, {9999999, 0, true, false}, {0, 18278, false, true}, {math.MinInt, math.MaxInt, true, true}} {
		if Text(m) != "" || Relative(m, 0, 0) != "" {
			t.Error(m)
		}
	}
	for _, s := range []string{"", "A", "1", "$", "A0", "A01", "AAAA1", "A10000000", "A$", "$1", "A$$1", "$$A1", "A1 ", " A1", "A1$", "A-1", "Aé1", "A+1", "A1.", "A1é"} {
		if x, ok := Parse(s); ok || x != (Mark{}) {
			t.Error(s)
		}
	}
}

func TestP4_3_P4_4(t *testing.T) {
	for _, c := range []struct {
		m        Mark
		row, col int
		s        string
	}{{Mark{2, 1, true, false}, 0, 0, "R3C[1]"}, {Mark{}, 0, 0, "RC"}, {Mark{}, 1, 2, "R[-1]C[-2]"}, {Mark{4, 4, false, true}, 4, 0, "RC5"}, {Mark{0, 0, false, false}, 9999998, 18277, "R[-9999998]C[-18277]"}} {
		if s := Relative(c.m, c.row, c.col); s != c.s {
			t.Error(c, s)
		}
		if m, ok := Absolute(c.s, c.row, c.col); m != c.m || !ok {
			t.Error(c, m)
		}
	}
	for _, s := range []string{"", "R", "C", "RC ", "rc", "R0C", "R01C", "R[0]C", "R[+1]C", "R[01]C", "R[-0]C", "R[1C", "R1]C", "R[-11]C", "RC[-11]", "R10000000C", "RC18279", "R[99999999999999999999]C", "R[9999990]C", "RCC", "RRC", "R[[1]]C", "R[]C", "R-1C", "R[1]]C", "RC[1]C"} {
		if m, ok := Absolute(s, 10, 10); ok || m != (Mark{}) {
			t.Error(s, m)
		}
	}
	for _, p := range [][2]int{{-1, 0}, {0, -1}, {9999999, 0}, {0, 18278}, {math.MinInt, 0}, {0, math.MaxInt}} {
		if Relative(Mark{}, p[0], p[1]) != "" {
			t.Error(p)
		}
		if _, ok := Absolute("RC", p[0], p[1]); ok {
			t.Error(p)
		}
	}
	r := rand.New(rand.NewSource(1))
	for range 5000 {
		m := Mark{r.Intn(1000), r.Intn(1000), r.Intn(2) == 0, r.Intn(2) == 0}
		row, col, down, right := r.Intn(1000), r.Intn(1000), r.Intn(100), r.Intn(100)
		s := Relative(m, row, col)
		if x, ok := Absolute(s, row, col); x != m || !ok {
			t.Fatal(m, s)
		}
		moved := m
		if !m.FixRow {
			moved.Row += down
		}
		if !m.FixCol {
			moved.Col += right
		}
		if Relative(moved, row+down, col+right) != s {
			t.Fatal(m, s)
		}
	}
}
