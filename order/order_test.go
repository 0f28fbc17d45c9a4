package order

import (
	"math"
	"math/rand"
	"slices"
	"strings"
	"testing"

	"counterpane/addr"
	"counterpane/api"
	"counterpane/calc"
	"counterpane/edit"
	"counterpane/funcs"
	"counterpane/render"
	"counterpane/sheet"
	"counterpane/value"
)

func row(s string) (l []api.Value) {
	for _, w := range strings.Fields(s) {
		if w == "_" {
			w = ""
		}
		l = append(l, value.Read(w))
	}
	return l
}

func TestP30_1(t *testing.T) {
	for i, c := range []struct {
		l    []string
		keys []Key
		want []int
	}{
		{[]string{"2", "_", "1", "text"}, []Key{{}}, []int{2, 0, 3, 1}}, {[]string{"2", "_", "1", "text"}, []Key{{Down: true}}, []int{3, 0, 2, 1}}, {[]string{"3", "1", "2"}, nil, []int{0, 1, 2}}, {[]string{"1 b", "1 a", "0 c"}, []Key{{}, {Col: 1}}, []int{2, 1, 0}}, {[]string{"1 b", "1 a", "0 c"}, []Key{{Down: true}}, []int{0, 1, 2}}, {[]string{"1", "1 a", "1 B"}, []Key{{Col: 1}}, []int{1, 2, 0}}, {[]string{"1", "2"}, []Key{{Col: -1}, {Col: math.MaxInt}, {Col: math.MinInt}}, []int{0, 1}}, {nil, []Key{{}}, nil}, {[]string{"#N/A", "TRUE", "x", "5", "_", "X"}, []Key{{}}, []int{3, 2, 5, 1, 0, 4}}, {[]string{"#N/A", "TRUE", "x", "5", "_", "X"}, []Key{{Down: true}}, []int{0, 1, 2, 5, 3, 4}}, {[]string{"_ 2", "_ 1", "1 5"}, []Key{{Down: true}, {Col: 1}}, []int{2, 1, 0}},
	} {
		var l [][]api.Value
		for _, s := range c.l {
			l = append(l, row(s))
		}
		if got := Permutation(l, c.keys...); !slices.Equal(got, c.want) {
			t.Error(i, got)
		}
	}
	Permutation([][]api.Value{{{Kind: 77}}, nil, {{Kind: -5}}}, Key{})
}

func build(t *testing.T, rows, cols int, l ...string) *sheet.Sheet {
	t.Helper()
	s := sheet.New(rows, cols)
	for _, x := range l {
		mark, text, _ := strings.Cut(x, " ")
		m, _ := addr.Parse(mark)
		if at, e := s.Type(m.Row, m.Col, text); e != api.OK {
			t.Fatal(x, at, e)
		}
	}
	return s
}

func told(s *sheet.Sheet, x edit.Edit) string {
	var out []string
	for _, y := range x.L {
		row, col, _ := s.Place(y.Cell)
		out = append(out, addr.Text(addr.Mark{Row: row, Col: col})+render.Entry(y.Content, s.Rows, s.Cols))
	}
	return strings.Join(out, " ")
}

func TestP30_2(t *testing.T) {
	s := build(t, 5, 4, "A2 3", "B2 =A2*2", "A3 1", "B3 =$A$3+A1", "C4 z", "B4 =A2")
	before := s.Clone()
	r := calc.All(s, funcs.Lib{})
	x, e := Sort(s, r, 1, 0, 3, 3, Key{Col: 0})
	if got := told(s, x); e != api.OK || got != "A21 B2=$A$3+#REF! C2 A33 B3=A3*2 C3 A4 B4=A2 C4z" || x.Kind != edit.Many || !sheet.Same(s, before) {
		t.Error(got, e)
	}
	if x, _ := Sort(s, r, 1, 0, 2, 2, Key{Col: 1, Down: true}); told(s, x) != "A23 B2=A2*2 A31 B3=$A$3+A1" {
		t.Error(told(s, x))
	}
	if x, _ := Sort(s, r, 1, 1, 2, 1, Key{}); told(s, x) != "B2=$A$3+#REF! B3=A3*2" {
		t.Error(told(s, x))
	}
	for i, c := range []struct {
		p    [4]int
		keys []Key
		e    api.Errno
	}{
		{[4]int{0, 0, 0, 1}, nil, api.ErrRange}, {[4]int{0, 0, 1, -1}, nil, api.ErrRange}, {[4]int{4, 0, 2, 1}, nil, api.ErrRange}, {[4]int{0, 3, 1, 2}, []Key{{Col: 9}}, api.ErrRange}, {[4]int{-1, 0, 1, 1}, nil, api.ErrRange}, {[4]int{0, 0, math.MaxInt, math.MaxInt}, nil, api.ErrRange}, {[4]int{0, 0, 2, 2}, nil, api.ErrCount}, {[4]int{0, 0, 2, 2}, []Key{{}, {Col: 2}}, api.ErrPlace}, {[4]int{0, 0, 2, 2}, []Key{{Col: -1}}, api.ErrPlace},
	} {
		if x, e := Sort(s, r, c.p[0], c.p[1], c.p[2], c.p[3], c.keys...); e != c.e || x.Kind != 0 || x.L != nil {
			t.Error(i, e)
		}
	}
	if _, e := Sort(nil, r, 0, 0, 1, 1); e != api.ErrArg {
		t.Error(e)
	}
	if _, e := Sort(s, nil, 0, 0, 0, 1); e != api.ErrArg {
		t.Error(e)
	}
	if _, e := Sort(&sheet.Sheet{}, r, 0, 0, 1, 1, Key{}); e != api.ErrRange {
		t.Error(e)
	}
}

func TestP30_2_same_rows(t *testing.T) {
	r := rand.New(rand.NewSource(1))
	words := strings.Split("1|2|3||x|X|TRUE|#N/A", "|")
	for range 200 {
		s := sheet.New(6, 2)
		for i := range 12 {
			s.Type(i/2, i%2, words[r.Intn(len(words))])
		}
		key := Key{Col: r.Intn(2), Down: r.Intn(2) == 0}
		rows := func() (l []string) {
			for i := range 6 {
				l = append(l, s.Text(i, 0)+"|"+s.Text(i, 1))
			}
			return
		}
		before := rows()
		x, _ := Sort(s, calc.All(s, nil), 0, 0, 6, 2, key)
		edit.Apply(s, x)
		after := rows()
		res := calc.All(s, nil)
		for i := range 5 {
			a, b := res.Value(i, key.Col), res.Value(i+1, key.Col)
			c := value.Order(a, b)
			if key.Down && a.Kind != api.Blank && b.Kind != api.Blank {
				c = -c
			}
			if c > 0 {
				t.Fatal(after)
			}
		}
		slices.Sort(before)
		slices.Sort(after)
		if !slices.Equal(before, after) {
			t.Fatal(before, after)
		}
	}
}

func TestP30_3(t *testing.T) {
	s := build(t, 3, 3, "A1 abab", "C1 =A1+B2", "B2 '5a", "A3 TRUE", "C3 dead a")
	s.Cols.Insert(api.Id{}, api.Id{N: 50})
	s.Cols.Delete(api.Id{N: 50})
	find := func(text string) (out []string) {
		for row, col := range Find(s, text) {
			out = append(out, addr.Text(addr.Mark{Row: row, Col: col}))
		}
		return
	}
	if got := find("a"); !slices.Equal(got, []string{"A1", "B2", "C3"}) {
		t.Error(got)
	}
	if got := find("="); !slices.Equal(got, []string{"C1"}) || find("") != nil || find("A1+B2") == nil || find("'") != nil {
		t.Error(got, find("'"))
	}
	for range Find(s, "a") {
		break
	}
	for range Find(nil, "a") {
		t.Error("nil")
	}
	before := s.Clone()
	x, n, e := Replace(s, "ab", "x")
	if told(s, x) != "A1xx" || n != 1 || e != api.OK || x.Kind != edit.Many || !sheet.Same(s, before) {
		t.Error(told(s, x), n, e)
	}
	x, n, e = Replace(s, "A1", "B2")
	if told(s, x) != "C1=B2+B2" || n != 1 || e != api.OK {
		t.Error(told(s, x), n, e)
	}
	x, n, e = Replace(s, "a", "")
	if told(s, x) != "A1bb B25 C3ded " || n != 3 || e != api.OK {
		t.Error(told(s, x), n, e)
	}
	x, n, e = Replace(s, "zzz", "")
	if x.Kind != edit.Many || x.L != nil || n != 0 || e != api.OK {
		t.Error(x, n, e)
	}
	for i, c := range []struct {
		s         *sheet.Sheet
		old, text string
		e         api.Errno
	}{{s, "", "x", api.ErrArg}, {nil, "a", "x", api.ErrArg}, {s, "B2", "", api.ErrForm}, {s, "B2", "Z99", api.ErrPlace}, {s, "a", strings.Repeat("x", 200), api.ErrLong}} {
		if x, n, e := Replace(c.s, c.old, c.text); e != c.e || n != 0 || x.Kind != 0 || x.L != nil {
			t.Error(i, n, e)
		}
	}
}
