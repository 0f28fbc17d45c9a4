package trace

import (
	"math"
	"math/rand"
	"slices"
	"strings"
	"testing"

	"counterpane/addr"
	"counterpane/api"
	"counterpane/calc"
	"counterpane/funcs"
	"counterpane/parse"
	"counterpane/sheet"
)

func build(t *testing.T, rows, cols int, l ...string) *sheet.Sheet {
	t.Helper()
	s := sheet.New(rows, cols)
	for _, x := range l {
		mark, text, _ := strings.Cut(x, " ")
		m, _ := addr.Parse(mark)
		if at, e := s.Type(m.Row, m.Col, text); e != api.OK {
			t.Fatal(x, at, e)
		}
	}
	return s
}

func cell(mark string) api.Cell {
	m, _ := addr.Parse(mark)
	return api.Cell{Row: api.Id{N: m.Row + 1}, Col: api.Id{N: m.Col + 1}}
}

func names(l []api.Cell) string {
	var out []string
	for _, c := range l {
		out = append(out, addr.Text(addr.Mark{Row: c.Row.N - 1, Col: c.Col.N - 1}))
	}
	return strings.Join(out, " ")
}

func TestP26_1(t *testing.T) {
	s := build(t, 5, 5, "A1 5", "A2 =A1+A1", "B1 =SUM(A1:A3)+D4#+B3#+A2", "C3 =B1+TAX", "D4 =D4+C3", "E5 =E4#", "B3 =B3#")
	n, _, _ := parse.Formula("A2*2", s.Rows, s.Cols)
	s.Names.Set("TAX", n)
	for c, want := range map[string][3]string{
		"A1": {"", "B1 A2", "B1 A2 C3 D4"}, "A2": {"A1", "B1 C3", "B1 C3 D4"}, "B1": {"A1 A2 A3 D4 B3", "C3", "B1 C3 D4"}, "C3": {"B1 A2", "D4", "B1 C3 D4"}, "D4": {"D4 C3", "B1 D4", "B1 C3 D4"}, "E4": {"", "E5", "E5"}, "E5": {"E4", "", ""}, "B3": {"B3", "B1 B3", "B1 B3 C3 D4"}, "C1": {"", "", ""}, "F9": {"", "", ""},
	} {
		if got := names(Precedents(s, cell(c))); got != want[0] {
			t.Error(c, got)
		}
		if got := names(Dependents(s, cell(c))); got != want[1] {
			t.Error(c, got)
		}
		if got := names(Far(s, cell(c))); got != want[2] {
			t.Error(c, got)
		}
	}
	s.Rows.Delete(api.Id{N: 2})
	if names(Precedents(s, cell("B1"))) != "A1 A3 D4 B3" || Precedents(s, cell("A2")) != nil || Dependents(s, cell("A2")) != nil || Far(s, cell("A2")) != nil || names(Dependents(s, cell("A1"))) != "B1" {
		t.Error("a dead row")
	}
	for _, x := range []*sheet.Sheet{nil, {}, {Rows: s.Rows, Cols: s.Cols, Cells: s.Cells}} {
		if Precedents(x, cell("A1")) != nil || Dependents(x, cell("A1")) != nil || Far(x, cell("A1")) != nil || Why(x, nil, 0, 0) != "" {
			t.Error("not whole")
		}
	}
}

func TestP26_2(t *testing.T) {
	s := build(t, 4, 4, "A1 5", "A2 =A1+A1", "B1 =SEQUENCE(2,2)", "A3 =A4", "A4 =A3+1", "D3 '", "D4 =C4+D3", "C4 =1")
	r := calc.All(s, funcs.Lib{})
	for mark, want := range map[string]string{
		"A1": "A1 5\ntyped\n", "A2": "A2 10\nformula =A1+A1\nreads A1=5\n", "B1": "B1 1\nformula =SEQUENCE(2,2)\ncovers C2\n", "C2": "C2 4\ncovered by B1\n", "B3": "B3 \nempty\n", "A3": "A3 #CIRC!\nformula =A4\nreads A4=#CIRC!\nring A3 A4\n", "D3": "D3 \ntyped\n", "D4": "D4 #VALUE!\nformula =C4+D3\nreads C4=1 D3=\n", "C4": "C4 1\nformula =1\n",
	} {
		m, _ := addr.Parse(mark)
		if got := Why(s, r, m.Row, m.Col); got != want {
			t.Errorf("%s: %q", mark, got)
		}
	}
	for _, p := range [][2]int{{-1, 0}, {4, 0}, {0, 4}, {math.MinInt, math.MaxInt}} {
		if Why(s, r, p[0], p[1]) != "" {
			t.Error(p)
		}
	}
	if Why(s, nil, 0, 0) == "" {
		t.Error("of another result nothing is promised but an end")
	}
	self := build(t, 3, 1, "A1 =SEQUENCE(3)+A2")
	if got := Why(self, calc.All(self, funcs.Lib{}), 0, 0); got != "A1 #CIRC!\nformula =SEQUENCE(3)+A2\nreads A2=#CIRC!\ncovers A3\nring A1\n" {
		t.Errorf("%q", got)
	}
}

func TestP26_3(t *testing.T) {
	r := rand.New(rand.NewSource(1))
	texts := strings.Split("=A1+1|=B2*2|=SUM(A1:B3)|=C3|=IF(A2,B1,C1)|4|x|=A3#", "|")
	for range 500 {
		s := sheet.New(3, 3)
		for range 8 {
			s.Type(r.Intn(3), r.Intn(3), texts[r.Intn(len(texts))])
		}
		before := calc.All(s, funcs.Lib{})
		row, col := r.Intn(3), r.Intn(3)
		at, _ := s.Cell(row, col)
		far := Far(s, at)
		s.Type(row, col, texts[r.Intn(len(texts))])
		after := calc.All(s, funcs.Lib{})
		for p := range 3 {
			for q := range 3 {
				c, _ := s.Cell(p, q)
				if before.Value(p, q) != after.Value(p, q) && c != at && !slices.Contains(far, c) {
					t.Fatal(p, q)
				}
			}
		}
	}
}
