package fill

import (
	"math"
	"strings"
	"testing"

	"counterpane/addr"
	"counterpane/api"
	"counterpane/cells"
	"counterpane/edit"
	"counterpane/parse"
	"counterpane/render"
	"counterpane/sheet"
	"counterpane/tree"
)

func id(n int) api.Id { return api.Id{N: n} }

func cell(mark string) api.Cell {
	m, _ := addr.Parse(mark)
	return api.Cell{Row: id(m.Row + 1), Col: id(m.Col + 1)}
}

func build(t *testing.T, rows, cols int, l ...string) *sheet.Sheet {
	t.Helper()
	s := sheet.New(rows, cols)
	for _, x := range l {
		mark, text, _ := strings.Cut(x, " ")
		m, _ := addr.Parse(mark)
		if at, e := s.Type(m.Row, m.Col, text); e != api.OK {
			t.Fatal(x, at, e)
		}
	}
	return s
}

func TestP28_1(t *testing.T) {
	s := sheet.New(5, 5)
	for _, c := range [][4]string{
		{"A2+$A$2", "A1", "B3", "B4+$A$2"}, {"A2+$A$2", "A1", "A5", "#REF!+$A$2"}, {"B2#*$B2*B$2", "B2", "A1", "A1#*$B1*A$2"}, {"A1:B2", "A1", "B2", "B2:C3"}, {"A1:E2", "A1", "B1", "#REF!"}, {"$A1:B$2", "A1", "C4", "$A4:D$2"}, {"A:B+2:$3", "A1", "B2", "B:C+3:$3"}, {"$A:A+$1:1", "B2", "A1", "#REF!+#REF!"}, {"SUM(A1,X,{1,2})", "A1", "A2", "SUM(A2,X,{1,2})"}, {"A1", "B2", "A1", "#REF!"}, {"A1#", "B2", "A1", "#REF!"}, {"A1+B1", "A1", "A1", "A1+B1"}, {"-(A1%)", "A1", "B1", "-B1%"},
	} {
		n, _, e := parse.Formula(c[0], s.Rows, s.Cols)
		if e != api.OK {
			t.Fatal(c, e)
		}
		kept := tree.Map(n, nil)
		got := Shift(n, cell(c[1]), cell(c[2]), s.Rows, s.Cols)
		if text := render.Formula(got, s.Rows, s.Cols); text != c[3] || !tree.Same(n, kept) {
			t.Error(c, text)
		}
		for _, x := range [][2]api.Cell{{cell("A9"), cell("A2")}, {cell("A1"), {}}} {
			if got := Shift(n, x[0], x[1], s.Rows, s.Cols); !tree.Same(got, n) {
				t.Error(c)
			}
		}
		if got := Shift(n, cell("A1"), cell("A2"), nil, nil); !tree.Same(got, n) {
			t.Error(c)
		}
	}
	n, _, _ := parse.Formula("A2+A3+F(A2)", s.Rows, s.Cols)
	s.Rows.Delete(id(2))
	got := Shift(n, cell("A1"), cell("A3"), s.Rows, s.Cols)
	if !tree.Same(got.L[0].L[0], n.L[0].L[0]) || got.L[0].L[1].Area.A.Row != id(4) {
		t.Error("a dead one stays")
	}
	if got := Shift(n, cell("A2"), cell("A3"), s.Rows, s.Cols); !tree.Same(got, n) {
		t.Error("from a dead one")
	} else {
		got.L[0] = api.Node{}
	}
	if n.L[0].Kind != api.Binary {
		t.Error("memory")
	}
	odd := api.Node{Kind: 77, Area: n.L[0].L[0].Area, L: []api.Node{{Kind: api.One, Area: n.L[0].L[1].Area}}}
	if got := Shift(odd, cell("A1"), cell("A3"), s.Rows, s.Cols); got.L[0].Area.A.Row != id(4) || got.Area != odd.Area {
		t.Error(got)
	}
}

// told tells the sets of an edit: the cells' texts as they would be.
func told(t *testing.T, s *sheet.Sheet, x edit.Edit) string {
	t.Helper()
	var out []string
	for _, y := range x.L {
		row, col, ok := s.Place(y.Cell)
		if y.Kind != edit.Set || !ok {
			t.Error(y)
		}
		out = append(out, addr.Text(addr.Mark{Row: row, Col: col})+render.Entry(y.Content, s.Rows, s.Cols))
	}
	if x.Kind != edit.Many {
		t.Error(x.Kind)
	}
	return strings.Join(out, " ")
}

func TestP28_2_P28_3(t *testing.T) {
	s := build(t, 5, 4, "A1 =A2+$A$2", "B1 x", "B2 =A1")
	b, e := Take(s, 0, 0, 2, 2)
	if e != api.OK {
		t.Fatal(e)
	}
	s.Type(0, 0, "changed")
	s.Type(0, 1, "changed")
	before := s.Clone()
	x, e := Put(s, b, 2, 1)
	if got := told(t, s, x); e != api.OK || got != "B3=B4+$A$2 C3x B4 C4=B3" {
		t.Error(got, e)
	}
	if x, _ := Put(s, b, 3, 1); told(t, s, x) != "B4=B5+$A$2 C4x B5 C5=B4" {
		t.Error(told(t, s, x))
	}
	if x, _ := Put(s, b, 0, 0); told(t, s, x) != "A1=A2+$A$2 B1x A2 B2=A1" {
		t.Error(told(t, s, x))
	}
	if !sheet.Same(before, s) {
		t.Error("changed")
	}
	for _, p := range [][2]int{{4, 0}, {-1, 0}, {0, 3}, {0, -1}, {math.MaxInt, 0}, {0, math.MinInt}} {
		if x, e := Put(s, b, p[0], p[1]); e != api.ErrRange || x.Kind != 0 || x.L != nil {
			t.Error(p, e)
		}
	}
	for _, p := range [][4]int{{0, 0, 0, 1}, {0, 0, 1, -1}, {0, 0, 6, 1}, {4, 3, 1, 2}, {-1, 0, 1, 1}, {0, -1, 1, 1}, {5, 0, 1, 1}, {math.MaxInt, 0, math.MaxInt, 1}, {0, 0, math.MaxInt, math.MaxInt}, {0, 0, math.MinInt, 1}} {
		if b, e := Take(s, p[0], p[1], p[2], p[3]); e != api.ErrRange || b.list != nil || b.rows != 0 {
			t.Error(p, e)
		}
		if x, e := Fill(s, p[0], p[1], p[2], p[3], true); e != api.ErrRange || x.Kind != 0 {
			t.Error(p, e)
		}
	}
	if _, e := Put(s, Block{}, 0, 0); e != api.ErrArg {
		t.Error(e)
	}
	for _, w := range []*sheet.Sheet{nil, {}} {
		_, e1 := Take(w, 0, 0, 1, 1)
		_, e2 := Put(w, b, 0, 0)
		_, e3 := Fill(w, 0, 0, 1, 1, false)
		if e1 != api.ErrArg || e2 != api.ErrArg || e3 != api.ErrArg {
			t.Error(e1, e2, e3)
		}
	}
	s.Rows.Delete(id(1))
	if x, _ := Put(s, b, 0, 2); told(t, s, x) != "C1=A1+$A$1 D1x C2 D2=#REF!" {
		t.Error(told(t, s, x))
	}
}

func TestP28_4(t *testing.T) {
	s := build(t, 4, 4, "A1 =B1+$B$1", "B1 7", "A2 =A1#", "C3 =C4")
	for i, c := range []struct {
		p    [4]int
		down bool
		want string
	}{
		{[4]int{0, 0, 3, 2}, true, "A2=B2+$B$1 B27 A3=B3+$B$1 B37"}, {[4]int{0, 0, 2, 3}, false, "B1=C1+$B$1 C1=D1+$B$1 B2=B1# C2=C1#"}, {[4]int{0, 0, 1, 3}, true, ""}, {[4]int{0, 0, 3, 1}, false, ""}, {[4]int{2, 2, 2, 1}, true, "C4=#REF!"}, {[4]int{3, 3, 1, 1}, true, ""}, {[4]int{1, 1, 2, 1}, true, "B3"},
	} {
		before := s.Clone()
		x, e := Fill(s, c.p[0], c.p[1], c.p[2], c.p[3], c.down)
		if got := told(t, s, x); e != api.OK || got != c.want || !sheet.Same(s, before) {
			t.Error(i, got, e)
		}
		if _, e := edit.Apply(s.Clone(), x); e != api.OK {
			t.Error(i, e)
		}
	}
	// Filled right and down is filled down and right.
	one, two := build(t, 4, 4, "A1 =A1+$B2+C$3"), build(t, 4, 4, "A1 =A1+$B2+C$3")
	for _, way := range []bool{true, false} {
		x, _ := Fill(one, 0, 0, 4, 4, way)
		edit.Apply(one, x)
		y, _ := Fill(two, 0, 0, 4, 4, !way)
		edit.Apply(two, y)
	}
	for row := range 4 {
		for col := range 4 {
			if !cells.Same(one.Content(row, col), two.Content(row, col)) {
				t.Error(row, col, one.Text(row, col), two.Text(row, col))
			}
		}
	}
}
