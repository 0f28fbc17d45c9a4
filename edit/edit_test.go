package edit

import (
	"math"
	"math/rand"
	"slices"
	"testing"

	"counterpane/api"
	"counterpane/cells"
	"counterpane/parse"
	"counterpane/sheet"
	"counterpane/tree"
	"counterpane/value"
)

func id(n int) api.Id { return api.Id{N: n} }

func cell(row, col int) api.Cell { return api.Cell{Row: id(row), Col: id(col)} }

func typed(s string) api.Content { return api.Content{Kind: api.Typed, Value: value.Read(s)} }

func formula(s string, x *sheet.Sheet) api.Content {
	n, _, _ := parse.Formula(s, x.Rows, x.Cols)
	return api.Content{Kind: api.Formula, Tree: n}
}

func same(a, b Edit) bool {
	return a.Kind == b.Kind && a.Cell == b.Cell && cells.Same(a.Content, b.Content) && a.At == b.At && a.New == b.New && a.Text == b.Text && slices.EqualFunc(a.L, b.L, same)
}

// exactly tells whether both sheets are the same, what is dead, too.
func exactly(a, b *sheet.Sheet) bool {
	if !sheet.Same(a, b) || a.Cells.Len() != b.Cells.Len() {
		return false
	}
	var l, m []api.Id
	for id := range a.Rows.All() {
		l = append(l, id)
	}
	for id := range b.Rows.All() {
		m = append(m, id)
	}
	return slices.Equal(l, m)
}

func TestP27_1_P27_3(t *testing.T) {
	s := sheet.New(3, 3)
	s.Type(0, 0, "3")
	s.Names.Set("TAX", formula("0.2", s).Tree)
	s.Rows.Delete(id(3))
	s.Cols.Delete(id(3))
	for i, c := range []struct{ x, back Edit }{
		{Edit{Kind: Set, Cell: cell(1, 1), Content: typed("5"), At: id(9), New: id(9), Text: "x", L: []Edit{{}}}, Edit{Kind: Set, Cell: cell(1, 1), Content: typed("3")}},
		{Edit{Kind: Set, Cell: cell(3, 3), Content: formula("A1", s)}, Edit{Kind: Set, Cell: cell(3, 3)}},
		{Edit{Kind: Set, Cell: cell(1, 1)}, Edit{Kind: Set, Cell: cell(1, 1), Content: typed("3")}},
		{Edit{Kind: PutRow, At: id(1), New: id(50)}, Edit{Kind: CutRow, At: id(50)}},
		{Edit{Kind: PutCol, At: id(3), New: id(50)}, Edit{Kind: CutCol, At: id(50)}},
		{Edit{Kind: CutRow, At: id(1), New: id(7)}, Edit{Kind: BackRow, At: id(1)}},
		{Edit{Kind: CutCol, At: id(1)}, Edit{Kind: BackCol, At: id(1)}},
		{Edit{Kind: BackRow, At: id(3)}, Edit{Kind: CutRow, At: id(3)}},
		{Edit{Kind: BackCol, At: id(3)}, Edit{Kind: CutCol, At: id(3)}},
		{Edit{Kind: Define, Text: "TAX", Content: formula("1", s)}, Edit{Kind: Define, Text: "TAX", Content: formula("0.2", s)}},
		{Edit{Kind: Define, Text: "TAX"}, Edit{Kind: Define, Text: "TAX", Content: formula("0.2", s)}},
		{Edit{Kind: Define, Text: "NEW", Content: formula("1", s)}, Edit{Kind: Define, Text: "NEW"}},
		{Edit{Kind: Many}, Edit{Kind: Many}},
		{Edit{Kind: Many, L: []Edit{{Kind: PutRow, New: id(60)}, {Kind: Set, Cell: cell(60, 1), Content: typed("1")}, {Kind: Many, L: []Edit{{Kind: Set, Cell: cell(60, 1), Content: typed("2")}}}}}, Edit{Kind: Many, L: []Edit{{Kind: Many, L: []Edit{{Kind: Set, Cell: cell(60, 1), Content: typed("1")}}}, {Kind: Set, Cell: cell(60, 1)}, {Kind: CutRow, At: id(60)}}}},
	} {
		before := s.Clone()
		if e := Check(s, c.x); e != api.OK || !exactly(before, s) {
			t.Error(i, e)
		}
		back, e := Apply(s, c.x)
		if e != api.OK || !same(back, c.back) {
			t.Error(i, e, back)
		}
		after := s.Clone()
		if ofTheDead, ofNone := i == 1, i == 12; sheet.Same(before, after) != (ofTheDead || ofNone) {
			t.Error(i, "nothing done")
		}
		again, e := Apply(s, back)
		if e != api.OK || !sheet.Same(s, before) {
			t.Error(i, e)
		}
		if _, e := Apply(s, again); e != api.OK || !sheet.Same(s, after) {
			t.Error(i, e)
		}
		s = before
	}
}

func TestP27_1_errors(t *testing.T) {
	s := sheet.New(3, 3)
	s.Type(0, 0, "3")
	s.Rows.Delete(id(3))
	ok := Edit{Kind: PutRow, New: id(60)}
	for i, c := range []struct {
		x Edit
		e api.Errno
	}{
		{Edit{}, api.ErrKind}, {Edit{Kind: 10}, api.ErrKind}, {Edit{Kind: -1}, api.ErrKind}, {Edit{Kind: math.MinInt}, api.ErrKind}, {Edit{Kind: Define, Text: "tax", Content: typed("1")}, api.ErrKind}, {Edit{Kind: Define, Text: "TAX", Content: api.Content{Kind: 9}}, api.ErrKind},
		{Edit{Kind: Set}, api.ErrPlace}, {Edit{Kind: Set, Cell: cell(9, 1), Content: api.Content{Kind: 9}}, api.ErrPlace}, {Edit{Kind: Set, Cell: cell(1, 9)}, api.ErrPlace}, {Edit{Kind: Set, Cell: cell(1, 1), Content: api.Content{Kind: 9}}, api.ErrForm},
		{Edit{Kind: PutRow}, api.ErrArg}, {Edit{Kind: PutRow, New: id(1)}, api.ErrTwice}, {Edit{Kind: PutCol, New: id(9), At: id(8)}, api.ErrNone}, {Edit{Kind: CutRow}, api.ErrNone}, {Edit{Kind: CutRow, At: id(3)}, api.ErrState}, {Edit{Kind: BackRow, At: id(1)}, api.ErrState}, {Edit{Kind: BackCol, At: id(1)}, api.ErrState}, {Edit{Kind: CutCol, At: id(9)}, api.ErrNone},
		{Edit{Kind: Define, Text: "tax"}, api.ErrNone}, {Edit{Kind: Define, Text: "tax", Content: formula("1", s)}, api.ErrName}, {Edit{Kind: Define, Text: "TAX", Content: formula("N_", s)}, api.ErrKind}, {Edit{Kind: Define, Text: "TAX", Content: api.Content{Kind: api.Formula}}, api.ErrForm},
		{Edit{Kind: Many, L: []Edit{ok, {Kind: Set, Cell: cell(60, 1), Content: typed("1")}, {Kind: CutRow, At: id(1)}, {Kind: 99}, {}}}, api.ErrKind}, {Edit{Kind: Many, L: []Edit{ok, {Kind: Many, L: []Edit{ok}}}}, api.ErrTwice}, {Edit{Kind: Many, L: []Edit{{Kind: CutRow, At: id(1)}, {Kind: CutRow, At: id(1)}, {}}}, api.ErrState},
	} {
		before := s.Clone()
		back, e := Apply(s, c.x)
		if e != c.e || !same(back, Edit{}) || Check(s, c.x) != c.e || !exactly(before, s) {
			t.Error(i, e, back)
		}
	}
	for _, x := range []*sheet.Sheet{nil, {}} {
		for _, y := range []Edit{ok, {}, {Kind: Many}} {
			if back, e := Apply(x, y); e != api.ErrArg || !same(back, Edit{}) || Check(x, y) != api.ErrArg {
				t.Error(e)
			}
		}
	}
	full := sheet.New(101, 100)
	for i := range api.MaxCells {
		full.Type(i/100, i%100, "1")
	}
	if _, e := Apply(full, Edit{Kind: Set, Cell: cell(101, 1), Content: typed("1")}); e != api.ErrFull {
		t.Error(e)
	}
}

func TestP27_2(t *testing.T) {
	x := Edit{Kind: Many, L: []Edit{{Kind: Set, Cell: cell(2, 1)}, {Kind: CutRow, Cell: cell(9, 9)}, {Kind: Many, L: []Edit{{Kind: Set, Cell: cell(1, 1)}, {Kind: Set, Cell: cell(2, 1)}}}, {Kind: Set, L: []Edit{{Kind: Set, Cell: cell(8, 8)}}}}}
	if l := Cells(x); !slices.Equal(l, []api.Cell{cell(2, 1), cell(1, 1), {}}) {
		t.Error(l)
	}
	if Cells(Edit{}) != nil || !slices.Equal(Cells(x.L[0]), []api.Cell{cell(2, 1)}) {
		t.Error("cells")
	}
	s := sheet.New(1, 1)
	set := Edit{Kind: Set, Cell: cell(1, 1), Content: formula("SUM(A1)", s)}
	Apply(s, set)
	set.Content.Tree.L[0] = api.Node{}
	back, _ := Apply(s, Edit{Kind: Set, Cell: cell(1, 1)})
	if tree.Check(back.Content.Tree) != api.OK {
		t.Error("what was handed in is kept")
	}
}

func TestP27_3_at_random(t *testing.T) {
	r := rand.New(rand.NewSource(1))
	some := func(s *sheet.Sheet) Edit {
		k := 1 + r.Intn(8)
		x := Edit{Kind: k, Cell: cell(1+r.Intn(4), 1+r.Intn(4)), At: id(r.Intn(5)), New: id(4 + r.Intn(5)), Text: []string{"N_", "M_"}[r.Intn(2)]}
		switch r.Intn(3) {
		case 0:
			x.Content = formula("A1", s)
		case 1:
			if k == Set {
				x.Content = typed("5")
			}
		}
		return x
	}
	for range 500 {
		s := sheet.New(4, 4)
		var backs []Edit
		states := []*sheet.Sheet{s.Clone()}
		for range 12 {
			x := some(s)
			if r.Intn(3) == 0 {
				x = Edit{Kind: Many, L: []Edit{some(s), some(s)}}
			}
			before := s.Clone()
			back, e := Apply(s, x)
			if e != api.OK {
				if !exactly(before, s) {
					t.Fatal("changed")
				}
				continue
			}
			backs = append(backs, back)
			states = append(states, s.Clone())
		}
		for i := len(backs) - 1; i >= 0; i-- {
			if _, e := Apply(s, backs[i]); e != api.OK || !sheet.Same(s, states[i]) {
				t.Fatal(e)
			}
		}
	}
}
