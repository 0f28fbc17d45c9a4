package sheet

import (
	"math"
	"math/rand"
	"slices"
	"strings"
	"testing"

	"counterpane/api"
	"counterpane/cells"
	"counterpane/tree"
)

func id(n int) api.Id { return api.Id{N: n} }

func TestP19_1(t *testing.T) {
	s := New(2, 3)
	for row := range 2 {
		for col := range 3 {
			c, ok := s.Cell(row, col)
			if !ok || c != (api.Cell{Row: id(row + 1), Col: id(col + 1)}) {
				t.Error(c)
			}
			if r, k, ok := s.Place(c); r != row || k != col || !ok {
				t.Error(c)
			}
		}
	}
	for _, p := range [][2]int{{-1, 0}, {0, -1}, {2, 0}, {0, 3}, {math.MaxInt, 0}, {0, math.MinInt}} {
		if c, ok := s.Cell(p[0], p[1]); ok || c != (api.Cell{}) {
			t.Error(p)
		}
	}
	s.Rows.Delete(id(1))
	if r, k, ok := s.Place(api.Cell{Row: id(1), Col: id(2)}); r != 0 || k != 0 || ok {
		t.Error("dead")
	}
	if r, k, ok := s.Place(api.Cell{Row: id(2), Col: id(9)}); r != 0 || k != 0 || ok {
		t.Error("none")
	}
	if s := New(-5, 2000); s.Rows.Len() != 0 || s.Cols.Len() != 1000 || s.Cells.Len() != 0 {
		t.Error("cut")
	}
	if s := New(math.MaxInt, math.MinInt); s.Rows.Len() != 1000 || s.Cols.Len() != 0 {
		t.Error("cut")
	}
}

func TestP19_2(t *testing.T) {
	s := New(2, 2)
	for _, c := range []struct {
		row, col int
		s        string
		at       int
		e        api.Errno
		text     string
	}{{1, 0, "=a1+1", 0, api.OK, "=A1+1"}, {2, 0, "=$", 0, api.ErrPlace, ""}, {0, 0, "=1+", 3, api.ErrForm, ""}, {0, 1, "'=x", 0, api.OK, "'=x"}, {0, 1, strings.Repeat("x", 256), 0, api.ErrLong, "'=x"}, {0, 1, "", 0, api.OK, ""}, {0, 1, "1.50", 0, api.OK, "1.5"}} {
		if at, e := s.Type(c.row, c.col, c.s); at != c.at || e != c.e || s.Text(c.row, c.col) != c.text {
			t.Error(c, at, e, s.Text(c.row, c.col))
		}
	}
	if !cells.Same(s.Content(9, 9), api.Content{}) || s.Text(9, 9) != "" || s.Content(1, 0).Kind != api.Formula {
		t.Error("content")
	}
	s.Rows.Insert(api.Id{}, api.Id{Author: 1, N: 1})
	if s.Text(2, 0) != "=A2+1" {
		t.Error(s.Text(2, 0))
	}
	full := New(101, 100)
	for i := range api.MaxCells {
		full.Type(i/100, i%100, "1")
	}
	if at, e := full.Type(100, 0, "1"); at != 0 || e != api.ErrFull {
		t.Error(e)
	}
}

func TestP19_3(t *testing.T) {
	s := New(3, 3)
	for _, p := range []struct {
		row, col int
		s        string
	}{{2, 0, "c"}, {0, 2, "b"}, {0, 1, "a"}, {1, 1, "dead"}} {
		s.Type(p.row, p.col, p.s)
	}
	s.Rows.Insert(api.Id{}, api.Id{Author: 2, N: 9})
	s.Type(0, 0, "=LET(A,1,A)")
	s.Rows.Delete(id(2))
	var l []string
	for at, c := range s.Live() {
		row, col, _ := s.Place(at)
		if !cells.Same(c, s.Content(row, col)) {
			t.Error(at)
		}
		l = append(l, s.Text(row, col))
	}
	if !slices.Equal(l, []string{"=LET(A,1,A)", "a", "b", "c"}) {
		t.Error(l)
	}
	for range s.Live() {
		break
	}
	s.Names.Set("TAX", s.Content(0, 0).Tree)
	c := s.Clone()
	if !Same(s, c) || !Same(c, s) || !Same(nil, nil) || Same(nil, s) || Same(s, &Sheet{}) || Same(&Sheet{}, &Sheet{}) || Same(&Sheet{}, nil) {
		t.Error("same")
	}
	for i, f := range []func(x *Sheet){
		func(x *Sheet) { x.Rows.Delete(id(1)) }, func(x *Sheet) { x.Cols.Insert(api.Id{}, id(77)) }, func(x *Sheet) { x.Type(0, 0, "=2") }, func(x *Sheet) { x.Type(0, 0, "") }, func(x *Sheet) { x.Type(0, 2, "new") }, func(x *Sheet) { x.Names.Drop("TAX") }, func(x *Sheet) { x.Names.Set("TAX", api.Node{Value: api.Value{Kind: api.Bool}}) }, func(x *Sheet) { x.Names.Set("T_", api.Node{Value: api.Value{Kind: api.Bool}}) }, func(x *Sheet) { x.Rows.Revive(id(2)) },
	} {
		d := s.Clone()
		f(d)
		if Same(s, d) || Same(d, s) || !Same(s, c) {
			t.Error(i)
		}
	}
	c.Rows.Revive(id(2))
	if c.Text(2, 1) != "dead" {
		t.Error("what is dead is cloned, too")
	}
	d := s.Clone()
	d.Cells.Put(api.Cell{Row: id(2), Col: id(1)}, api.Content{Kind: api.Typed, Value: api.Value{Kind: api.Bool}})
	d.Rows.Insert(id(1), id(50))
	d.Rows.Delete(id(50))
	if !Same(s, d) {
		t.Error("dead ones play a part")
	}
}

func TestP19_4(t *testing.T) {
	whole := New(1, 1)
	for i, s := range []*Sheet{nil, {}, {Cols: whole.Cols, Cells: whole.Cells, Names: whole.Names}, {Rows: whole.Rows, Cells: whole.Cells, Names: whole.Names}, {Rows: whole.Rows, Cols: whole.Cols, Names: whole.Names}, {Rows: whole.Rows, Cols: whole.Cols, Cells: whole.Cells}} {
		_, ok := s.Cell(0, 0)
		_, _, ok2 := s.Place(api.Cell{Row: id(1), Col: id(1)})
		at, e := s.Type(0, 0, "1")
		if ok || ok2 || at != 0 || e != api.ErrArg || s.Text(0, 0) != "" || !cells.Same(s.Content(0, 0), api.Content{}) || s.Clone() != nil {
			t.Error(i)
		}
		for range s.Live() {
			t.Error(i)
		}
	}
}

func TestP19_5(t *testing.T) {
	s := New(6, 4)
	r := rand.New(rand.NewSource(1))
	texts := []string{"=A1+$B$2", "=SUM(A:B,1:2,A1:C3)", "'5", "x", "#n/a", "=-(2^2)", "=B2#", "TRUE", "", "=\"a\"\"b\"&A6"}
	for range 300 {
		row, col := r.Intn(6), r.Intn(4)
		s.Type(row, col, texts[r.Intn(len(texts))])
		before := s.Content(row, col)
		if at, e := s.Type(row, col, s.Text(row, col)); at != 0 || e != api.OK || !cells.Same(before, s.Content(row, col)) {
			t.Fatal(s.Text(row, col), e)
		}
	}
	s.Type(5, 3, "=A1+B6")
	at, _ := s.Cell(5, 3)
	before := s.Cells.Get(at).Tree
	s.Rows.Delete(id(1))
	s.Cols.Insert(api.Id{}, id(99))
	if !tree.Same(before, s.Cells.Get(at).Tree) || s.Text(4, 4) != "=#REF!+C5" {
		t.Error(s.Text(4, 4))
	}
	s.Rows.Revive(id(1))
	if s.Text(5, 4) != "=B1+C6" {
		t.Error(s.Text(5, 4))
	}
}
