package show

import (
	"math"
	"slices"
	"strings"
	"testing"

	"counterpane/addr"
	"counterpane/api"
	"counterpane/calc"
	"counterpane/funcs"
	"counterpane/share"
	"counterpane/sheet"
)

func build(t *testing.T, rows, cols int, l ...string) *sheet.Sheet {
	t.Helper()
	s := sheet.New(rows, cols)
	for _, x := range l {
		mark, text, _ := strings.Cut(x, " ")
		m, _ := addr.Parse(mark)
		if at, e := s.Type(m.Row, m.Col, text); e != api.OK {
			t.Fatal(x, at, e)
		}
	}
	return s
}

func TestP42_1(t *testing.T) {
	s := build(t, 3, 3, "A1 =SEQUENCE(2)", "B1 =B2", "B2 =B1", "C1 a\x00\\\x1f\x7f\né", "C2 =SEQUENCE(9)", "A3 '=x", "C3 1.50")
	r := calc.All(s, funcs.Lib{})
	if got := Grid(s, r, false); !slices.Equal(got, []string{"|A|B|C", "1|*1|@#CIRC!|a\\00\\5c\\1f\\7f\\0aé", "2|.2|@#CIRC!|#SPILL!", "3|=x||1.5"}) {
		t.Errorf("%q", got)
	}
	if got := Grid(s, r, true); !slices.Equal(got, []string{"|A|B|C", "1|=SEQUENCE(2)|=B2|a\\00\\5c\\1f\\7f\\0aé", "2||=B1|=SEQUENCE(9)", "3|'=x||1.5"}) {
		t.Errorf("%q", got)
	}
	for p, want := range map[[2]int]string{{0, 0}: "*1", {1, 0}: ".2", {0, 1}: "@#CIRC!", {2, 1}: "", {3, 0}: "", {-1, 0}: "", {0, math.MaxInt}: ""} {
		if got := Cell(s, r, p[0], p[1]); got != want {
			t.Error(p, got)
		}
	}
	if Cell(nil, r, 0, 0) != "" || Cell(s, nil, 0, 0) != "" || Grid(nil, r, true) != nil || Grid(s, nil, false) != nil || Cell(&sheet.Sheet{}, r, 0, 0) != "" {
		t.Error("nil")
	}
	self := build(t, 3, 1, "A1 =SEQUENCE(3)+A2")
	if got := Grid(self, calc.All(self, funcs.Lib{}), false); !slices.Equal(got, []string{"|A", "1|@#CIRC!", "2|.#CIRC!", "3|.#CIRC!"}) {
		t.Error(got)
	}
	if got := Grid(sheet.New(1, 28), calc.All(sheet.New(1, 28), nil), false); !strings.HasSuffix(got[0], "|Z|AA|AB") || got[1] != "1"+strings.Repeat("|", 28) {
		t.Error(got)
	}
	if got := Grid(sheet.New(0, 0), calc.All(sheet.New(0, 0), nil), false); !slices.Equal(got, []string{""}) {
		t.Errorf("%q", got)
	}
}

func TestP42_2(t *testing.T) {
	a, b, c := share.New(1, 3, 2), share.New(2, 3, 2), share.New(3, 3, 2)
	a.Type(2, 0, "=A1+1")
	a.Type(0, 1, "l\nf")
	a.Type(1, 0, "gone")
	b.Type(2, 0, "'5")
	b.Type(0, 1, "")
	b.Type(1, 0, "gone, too")
	c.Type(2, 0, "last")
	for _, w := range []*share.Writer{b, c} {
		for _, l := range w.Since(nil) {
			a.Take(l)
		}
	}
	if got := Conflicts(a); !slices.Equal(got, []string{`B1 1.2 l\0af`, "A2 1.3 gone", "A3 1.1 =A1+1", "A3 2.1 '5"}) {
		t.Errorf("%q", got)
	}
	a.InsertRow(0)
	a.DeleteRow(2)
	if got := Conflicts(a); !slices.Equal(got, []string{`B2 1.2 l\0af`, "A3 1.1 =A2+1", "A3 2.1 '5"}) {
		t.Errorf("%q", got)
	}
	if Conflicts(nil) != nil || Conflicts(share.New(1, 1, 1)) != nil {
		t.Error("none")
	}
}
