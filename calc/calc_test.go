package calc

import (
	"math"
	"math/rand"
	"slices"
	"strings"
	"testing"

	"counterpane/addr"
	"counterpane/api"
	"counterpane/eval"
	"counterpane/funcs"
	"counterpane/shape"
	"counterpane/sheet"
	"counterpane/value"
)

// put types texts, each behind its mark and a blank.
func put(t *testing.T, s *sheet.Sheet, l ...string) *sheet.Sheet {
	t.Helper()
	for _, x := range l {
		mark, text, _ := strings.Cut(x, " ")
		m, _ := addr.Parse(mark)
		if at, e := s.Type(m.Row, m.Col, text); e != api.OK {
			t.Fatal(x, at, e)
		}
	}
	return s
}

// told tells what all cells show, blanks between, rows with | between; _ is Blank.
func told(r *Result) string {
	var rows []string
	for row := range r.rows {
		var l []string
		for col := range r.cols {
			v := r.Value(row, col)
			if v.Kind == api.Blank {
				l = append(l, "_")
			} else {
				l = append(l, value.Show(v))
			}
		}
		rows = append(rows, strings.Join(l, " "))
	}
	return strings.Join(rows, "|")
}

func TestP24_1_P24_2(t *testing.T) {
	for i, c := range []struct {
		rows, cols int
		l          []string
		want       string
		passes     int
	}{
		{3, 1, []string{"A1 =SEQUENCE(3)", "A3 x"}, "#SPILL!|_|x", 2},
		{3, 1, []string{"A1 =SEQUENCE(3)"}, "1|2|3", 2},
		{1, 2, []string{"A1 =B1", "B1 =A1"}, "#CIRC! #CIRC!", 1},
		{2, 2, []string{"A1 5", "B1 =A1*2", "A2 =B1+A1", "B2 =X"}, "5 10|15 #NAME?", 1},
		{2, 1, []string{"A1 =SEQUENCE(3)"}, "#SPILL!|_", 2},
		{3, 2, []string{"A1 =SEQUENCE(3)", "B1 =SUM(A1:A3)"}, "1 6|2 _|3 _", 2},
		{3, 2, []string{"A1 =SEQUENCE(3)", "B1 =SUM(A1#)"}, "1 6|2 _|3 _", 2},
		{3, 2, []string{"A1 =SEQUENCE(3)", "B1 =A1#*2"}, "1 2|2 4|3 6", 3},
		{3, 2, []string{"A1 =SEQUENCE(2)", "B1 =A2"}, "1 2|2 _|_ _", 2},
		{3, 1, []string{"A1 =SEQUENCE(2)+A3", "A3 =A2"}, "#CIRC!|#CIRC!|#CIRC!", 2},
		{3, 1, []string{"A1 =SEQUENCE(3)+A2"}, "#CIRC!|#CIRC!|#CIRC!", 2},
		{1, 1, []string{"A1 =A1"}, "#CIRC!", 1},
		{1, 1, []string{"A1 =A1#"}, "#CIRC!", 1},
		{2, 2, []string{"A1 =A2", "A2 =A1", "B1 =A1+1"}, "#CIRC! #CIRC!|#CIRC! _", 1},
		{2, 3, []string{"A1 =SEQUENCE(1,2)", "B2 =SEQUENCE(1,2)", "C1 =B1+C2"}, "1 2 4|_ 1 2", 3},
		{3, 3, []string{"A2 =SEQUENCE(1,3)", "B1 =SEQUENCE(3)"}, "_ 1 _|#SPILL! 2 _|_ 3 _", 3},
		{1, 1, nil, "_", 1},
		{2, 1, []string{"A1 =A2", "A2 '"}, "|", 1},
		{1, 2, []string{"A1 =B1", "B1 =1/0"}, "#DIV/0! #DIV/0!", 1},
		{1, 2, []string{"A1 =B1"}, "0 _", 1},
		{2, 2, []string{"A1 =B1#", "B1 5", "A2 =A1#"}, "#REF! 5|#REF! _", 1},
		{4, 1, []string{"A1 =IF(A3=2,1,SEQUENCE(3))"}, "#CIRC!|#CIRC!|#CIRC!|_", 2},
		{3, 2, []string{"A1 =IF(B1=1,{1;2},{1;2;3})", "B1 =N_"}, "#NAME? #NAME?|_ _|_ _", 1},
	} {
		s := put(t, sheet.New(c.rows, c.cols), c.l...)
		before := s.Clone()
		r := All(s, funcs.Lib{})
		if told(r) != c.want || r.Passes() != c.passes {
			t.Error(i, told(r), r.Passes(), "want", c.want, c.passes)
		}
		if !sheet.Same(before, s) {
			t.Error("the sheet changed")
		}
	}
}

func TestP24_2(t *testing.T) {
	s := put(t, sheet.New(4, 3), "A1 =SEQUENCE(3)", "B1 =C1", "C1 =B1", "C2 7", "B3 =A1#+1", "C4 =SUM(1,2)")
	r := All(s, funcs.Lib{})
	if a, ok := r.Array(0, 0); !ok || a.Rows != 3 || a.Cols != 1 {
		t.Error(a)
	} else {
		a.L[1] = api.Value{}
	}
	if told(r) != "1 #CIRC! #CIRC!|2 _ 7|3 #SPILL! _|_ _ 3" {
		t.Error(told(r))
	}
	if a, ok := r.Array(2, 1); !ok || !shape.Same(a, shape.One(value.Bad(api.FaultSpill))) {
		t.Error(a)
	}
	for _, p := range [][2]int{{1, 0}, {1, 2}, {-1, 0}, {9, 9}} {
		if a, ok := r.Array(p[0], p[1]); ok || !shape.Same(a, api.Array{}) {
			t.Error(p)
		}
	}
	for p, want := range map[[2]int][3]int{{0, 0}: {0, 0, 1}, {2, 0}: {0, 0, 1}, {3, 0}: {}, {2, 1}: {}, {0, 1}: {}, {3, 2}: {}, {math.MaxInt, math.MinInt}: {}} {
		row, col, ok := r.Owner(p[0], p[1])
		if row != want[0] || col != want[1] || ok != (want[2] == 1) {
			t.Error(p, row, col, ok)
		}
	}
	b1, _ := s.Cell(0, 1)
	c1, _ := s.Cell(0, 2)
	if l := r.Circle(0, 1); !slices.Equal(l, []api.Cell{b1, c1}) || !slices.Equal(r.Circle(0, 2), []api.Cell{c1, b1}) || r.Circle(0, 0) != nil || r.Circle(1, 0) != nil || r.Circle(-1, 5) != nil {
		t.Error(l)
	}
	if r.Value(-1, 0) != (api.Value{}) || r.Value(4, 0) != (api.Value{}) || r.Value(0, math.MaxInt) != (api.Value{}) {
		t.Error("beyond")
	}
	text := told(r)
	s.Rows.Delete(api.Id{N: 1})
	s.Type(0, 0, "other")
	if told(r) != text || !slices.Equal(r.Circle(0, 1), []api.Cell{b1, c1}) {
		t.Error("what is done behind changes the result")
	}
}

func TestP24_2_Same(t *testing.T) {
	base := []string{"A1 =SEQUENCE(2)", "B1 =B2", "B2 =B1"}
	a := All(put(t, sheet.New(3, 3), base...), funcs.Lib{})
	if !Same(a, All(put(t, sheet.New(3, 3), base...), funcs.Lib{})) || !Same(nil, nil) || Same(nil, a) || Same(a, nil) || Same(nil, All(nil, nil)) {
		t.Error("same")
	}
	for i, l := range [][]string{{"A1 =SEQUENCE(2)", "B1 =B2", "B2 =B2"}, {"A1 1", "A2 2", "B1 =B2", "B2 =B1"}, {"A1 =SEQUENCE(2)", "B1 #CIRC!", "B2 #CIRC!"}, {"A1 =SEQUENCE(2)", "B1 =B2", "B2 =B1", "C3 '"}, {"A1 =SEQUENCE(2)*1", "B1 =B2", "B2 =B1", "C1 =SEQUENCE(1,2)"}} {
		if b := All(put(t, sheet.New(3, 3), l...), funcs.Lib{}); Same(a, b) || Same(b, a) {
			t.Error(i)
		}
	}
	if Same(All(sheet.New(2, 1), nil), All(sheet.New(1, 2), nil)) || !Same(All(sheet.New(2, 1), nil), All(sheet.New(2, 1), funcs.Lib{})) {
		t.Error("shape")
	}
	var none *Result
	for _, r := range []*Result{none, All(nil, nil), All(&sheet.Sheet{}, funcs.Lib{}), Run(nil, nil)} {
		_, isArray := r.Array(0, 0)
		_, _, owned := r.Owner(0, 0)
		if r.Passes() != 0 || r.Value(0, 0) != (api.Value{}) || isArray || owned || r.Circle(0, 0) != nil {
			t.Error("of no cells")
		}
	}
	if All(nil, nil) == nil || !Same(All(nil, nil), All(&sheet.Sheet{}, nil)) {
		t.Error("of no cells")
	}
	if r := All(put(t, sheet.New(1, 1), "A1 =SUM(1)"), nil); told(r) != "#NAME?" {
		t.Error(told(r))
	}
}

var texts = strings.Split("|=SEQUENCE(2)|=SEQUENCE(1,2)|=SEQUENCE(2,2)|=A1|=B2|=C1+1|=A1#|=B1#*2|=SUM(A1:B2)|=SUM(A:A)|5|x|=IF(A1>1,SEQUENCE(2),3)|=D4|=A2:A3|=NAMED+1|=TRANSPOSE(A1:C1)|=IFERROR(B3,SEQUENCE(3))", "|")

func random(t *testing.T, r *rand.Rand) *sheet.Sheet {
	s := sheet.New(4, 4)
	for range 1 + r.Intn(7) {
		if _, e := s.Type(r.Intn(4), r.Intn(4), texts[r.Intn(len(texts))]); e != api.OK {
			t.Fatal(e)
		}
	}
	return s
}

func TestP24_3_P24_4(t *testing.T) {
	r := rand.New(rand.NewSource(1))
	for range 2000 {
		s := random(t, r)
		a := All(s, funcs.Lib{})
		formulas := 0
		for _, c := range s.Live() {
			if c.Kind == api.Formula {
				formulas++
			}
		}
		if a.Passes() < 1 || a.Passes() > formulas+1 {
			t.Fatal(a.Passes())
		}
		checkShown(t, s, a)
		run := Run(s, func(at api.Cell, n api.Node, v eval.View) api.Array {
			out := eval.Final(eval.Eval(n, v, funcs.Lib{}))
			for i := range n.L {
				n.L[i] = api.Node{}
			}
			return out
		})
		if !Same(a, run) {
			t.Fatal("run")
		}
		// Not how it came to be: rows that come and go, and what is typed over.
		other := s.Clone()
		other.Rows.Insert(api.Id{}, api.Id{Author: 9, N: 9})
		other.Type(0, 0, "=SEQUENCE(3)")
		other.Rows.Delete(api.Id{Author: 9, N: 9})
		if !Same(a, All(other, funcs.Lib{})) {
			t.Fatal("other ways")
		}
	}
}

// checkShown holds what cells show against what formulas come to by what cells show.
func checkShown(t *testing.T, s *sheet.Sheet, a *Result) {
	for row := range 4 {
		for col := range 4 {
			c := s.Content(row, col)
			p, q, owned := a.Owner(row, col)
			if owned {
				x, _ := a.Array(p, q)
				if (p != row || q != col) && c.Kind != api.Empty {
					t.Fatal("covered")
				}
				if v, _ := shape.At(x, row-p, col-q); v != a.Value(row, col) {
					t.Fatal("shown")
				}
			}
			if c.Kind != api.Formula {
				continue
			}
			at, _ := s.Cell(row, col)
			x, ok := a.Array(row, col)
			ring := len(a.Circle(row, col)) > 0
			want := eval.Final(eval.Eval(c.Tree, asShown{s, a}, funcs.Lib{}))
			fault := x.L[0].Fault
			if !ok || ring && fault != api.FaultCycle && fault != api.FaultSpill || !ring && fault != api.FaultSpill && fault != api.FaultCycle && !shape.Same(x, want) || !owned && len(x.L) > 1 {
				t.Fatal(s.Text(row, col), at, x, want)
			}
		}
	}
}

type asShown struct {
	s *sheet.Sheet
	r *Result
}

func (v asShown) Value(c api.Cell) api.Value {
	row, col, _ := v.s.Place(c)
	return v.r.Value(row, col)
}

func (v asShown) Spill(c api.Cell) (int, int, bool) {
	row, col, _ := v.s.Place(c)
	a, ok := v.r.Array(row, col)
	return a.Rows, a.Cols, ok
}

func (v asShown) Sheet() *sheet.Sheet { return v.s }

func TestP24_4_wrong(t *testing.T) {
	s := put(t, sheet.New(2, 2), "A1 =B1", "B1 =1")
	calc := "#CALC! #CALC!|_ _"
	if r := Run(s, nil); told(r) != calc {
		t.Error(told(r))
	}
	if r := Run(s, func(api.Cell, api.Node, eval.View) api.Array { return api.Array{Rows: 1, Cols: 7} }); told(r) != calc || r.Passes() != 1 {
		t.Error(told(r))
	}
	kept := shape.One(value.Read("4"))
	r := Run(s, func(at api.Cell, n api.Node, v eval.View) api.Array {
		if v.Sheet() != s || v.Value(api.Cell{}) != (api.Value{}) {
			t.Error("view")
		}
		if _, _, ok := v.Spill(api.Cell{}); ok {
			t.Error("view")
		}
		return kept
	})
	kept.L[0] = api.Value{}
	if told(r) != "4 4|_ _" {
		t.Error(told(r))
	}
}

func TestLong(t *testing.T) {
	s := sheet.New(1000, 5)
	s.Type(0, 0, "1")
	for row := range 999 {
		m := addr.Text(addr.Mark{Row: row})
		s.Type(row+1, 0, "="+m+"+1")
		s.Type(row+1, 1, "=SUM(A1:"+m+")")
	}
	r := All(s, funcs.Lib{})
	if value.Show(r.Value(999, 0)) != "1000" || value.Show(r.Value(999, 1)) != "499500" {
		t.Error(r.Value(999, 0))
	}
}
