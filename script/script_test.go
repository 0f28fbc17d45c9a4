package script

import (
	"math"
	"slices"
	"strings"
	"testing"

	"counterpane/api"
)

func lines(l ...string) string { return strings.Join(l, "\n") + "\n" }

var full = Script{Rows: 50, Cols: 1, Writers: 4, Steps: []Step{
	{Kind: Type, Writer: 1, Row: 999, Text: "=A2 + 1 "}, {Kind: Type, Writer: 4, Col: 999}, {Kind: Row, Writer: 2, Row: 1000}, {Kind: Col, Writer: 1}, {Kind: CutRow, Writer: 1, Row: 7}, {Kind: CutCol, Writer: 1, Row: 8}, {Kind: Named, Writer: 1, Name: "TAX", Text: "=1"}, {Kind: Named, Writer: 1, Name: "B_"}, {Kind: Back, Writer: 1}, {Kind: Forth, Writer: 1}, {Kind: Send, Writer: 1, To: 4}, {Kind: Show, Writer: 3}}}

const fullText = "sheet 50 1 4\n1 type 999 0 =A2 + 1 \n4 type 0 999 \n2 row 1000\n1 col 0\n1 cutrow 7\n1 cutcol 8\n1 name TAX =1\n1 name B_ \n1 back\n1 forth\n1 send 4\n3 show\n"

func same(a, b Script) bool {
	return a.Rows == b.Rows && a.Cols == b.Cols && a.Writers == b.Writers && slices.Equal(a.Steps, b.Steps)
}

func TestP41_1(t *testing.T) {
	if s, e := Text(full); s != fullText || e != api.OK || !Right(full) {
		t.Errorf("%q", s)
	}
	long := strings.Repeat("x", 256)
	steps := func(l ...Step) Script { return Script{1, 1, 2, l} }
	for i, s := range []Script{{}, {0, 1, 1, nil}, {51, 1, 1, nil}, {1, 51, 1, nil}, {1, -1, 1, nil}, {1, 1, 0, nil}, {1, 1, 5, nil}, {math.MinInt, math.MaxInt, 1, nil}, {1, 1, 1, slices.Repeat([]Step{{Kind: Show, Writer: 1}}, 201)},
		steps(Step{}), steps(Step{Kind: 11, Writer: 1}), steps(Step{Kind: -1, Writer: 1}), steps(Step{Kind: Show}), steps(Step{Kind: Show, Writer: 3}), steps(Step{Kind: Show, Writer: 1, To: 1}), steps(Step{Kind: Back, Writer: 1, Text: "x"}), steps(Step{Kind: Type, Writer: 1, Row: 1000}), steps(Step{Kind: Type, Writer: 1, Col: -1}), steps(Step{Kind: Type, Writer: 1, Text: long}), steps(Step{Kind: Type, Writer: 1, Text: "a\nb"}), steps(Step{Kind: Type, Writer: 1, Name: "TAX"}), steps(Step{Kind: Row, Writer: 1, Row: 1001}), steps(Step{Kind: CutCol, Writer: 1, Row: -1}), steps(Step{Kind: Col, Writer: 1, Col: 1}), steps(Step{Kind: Named, Writer: 1, Name: "tax"}), steps(Step{Kind: Named, Writer: 1}), steps(Step{Kind: Named, Writer: 1, Name: "TAX", Text: long}), steps(Step{Kind: Send, Writer: 1, To: 1}), steps(Step{Kind: Send, Writer: 1}), steps(Step{Kind: Send, Writer: 1, To: 3}), steps(Step{Kind: Send, Writer: 1, To: 2, Row: 1}), steps(Step{Kind: Show, Writer: 1}, Step{})} {
		if text, e := Text(s); text != "" || e != api.ErrForm || Right(s) {
			t.Error(i, e)
		}
	}
}

func TestP41_2(t *testing.T) {
	if s, n, e := Parse(fullText); !same(s, full) || n != 0 || e != api.OK {
		t.Error(s, n, e)
	}
	for _, s := range []string{"sheet 1 1 1\n", lines("sheet 2 2 1", "1 type 0 0 =A2+1", "1 show"), lines("sheet 1 1 1", "1 type 0 0 "+strings.Repeat("x", 255)), "sheet 1 1 1\n" + strings.Repeat("1 show\n", 200), lines("sheet 1 1 1", "1 type 0 0  "), lines("sheet 1 1 1", "1 type 0 0 \r")} {
		x, n, e := Parse(s)
		if again, _ := Text(x); again != s || n != 0 || e != api.OK {
			t.Errorf("%q %d %v", s, n, e)
		}
	}
	h := "sheet 1 1 2\n"
	for _, c := range []struct {
		s string
		n int
		e api.Errno
	}{
		{"", 1, api.ErrEnd}, {"sheet 1 1 1", 1, api.ErrEnd}, {"x", 1, api.ErrEnd}, {"\n", 1, api.ErrForm}, {"sheet 1 1\n", 1, api.ErrForm}, {"sheet 1 1 1 \n", 1, api.ErrForm}, {"sheet 01 1 1\n", 1, api.ErrForm}, {"sheet 0 1 1\n", 1, api.ErrForm}, {"sheet 1 1 5\n", 1, api.ErrForm}, {"Sheet 1 1 1\n", 1, api.ErrForm}, {"sheet  1 1\n", 1, api.ErrForm}, {"sheet +1 1 1\n", 1, api.ErrForm},
		{h + "1 show", 2, api.ErrEnd}, {h + "1 show\n\n", 3, api.ErrForm}, {h + "\n", 2, api.ErrForm}, {h + "1 show \n", 2, api.ErrForm}, {h + "1 Show\n", 2, api.ErrForm}, {h + "1  show\n", 2, api.ErrForm}, {h + "3 show\n", 2, api.ErrForm}, {h + "0 show\n", 2, api.ErrForm}, {h + "01 show\n", 2, api.ErrForm}, {h + " show\n", 2, api.ErrForm}, {h + "1\n", 2, api.ErrForm}, {h + "1 \n", 2, api.ErrForm}, {h + "1 jump\n", 2, api.ErrForm},
		{h + "1 type 0 0\n", 2, api.ErrForm}, {h + "1 type 0\n", 2, api.ErrForm}, {h + "1 type 1000 0 x\n", 2, api.ErrForm}, {h + "1 type 0 00 x\n", 2, api.ErrForm}, {h + "1 type 0 -0 x\n", 2, api.ErrForm}, {h + "1 type 0  0 x\n", 2, api.ErrForm}, {h + "1 type 0 0 " + strings.Repeat("x", 256) + "\n", 2, api.ErrForm}, {h + "1 row 1001\n", 2, api.ErrForm}, {h + "1 row\n", 2, api.ErrForm}, {h + "1 row 1 1\n", 2, api.ErrForm}, {h + "1 row x\n", 2, api.ErrForm}, {h + "1 name TAX\n", 2, api.ErrForm}, {h + "1 name tax =1\n", 2, api.ErrForm}, {h + "1 name  =1\n", 2, api.ErrForm}, {h + "1 send 1\n", 2, api.ErrForm}, {h + "1 send 3\n", 2, api.ErrForm}, {h + "1 send 02\n", 2, api.ErrForm}, {h + "1 back 1\n", 2, api.ErrForm},
		{h + strings.Repeat("1 show\n", 200) + "x\n", 202, api.ErrFull}, {h + strings.Repeat("1 show\n", 200) + "x", 202, api.ErrEnd}, {h + strings.Repeat("1 show\n", 199) + "x\n", 201, api.ErrForm}, {h + "x\n" + strings.Repeat("1 show\n", 300), 2, api.ErrForm},
	} {
		x, n, e := Parse(c.s)
		if !same(x, Script{}) || n != c.n || e != c.e {
			t.Errorf("%.60q %d %v", c.s, n, e)
		}
	}
}
