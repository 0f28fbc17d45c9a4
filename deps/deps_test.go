package deps

import (
	"iter"
	"slices"
	"strings"
	"testing"

	"counterpane/addr"
	"counterpane/api"
	"counterpane/parse"
	"counterpane/sheet"
	"counterpane/tree"
)

func id(n int) api.Id { return api.Id{N: n} }

// told tells the cells' texts, as they stood in the first sheet.
func told(l iter.Seq[api.Cell]) string {
	var out []string
	for c := range l {
		out = append(out, addr.Text(addr.Mark{Row: c.Row.N - 1, Col: c.Col.N - 1}))
	}
	return strings.Join(out, " ")
}

func read(t *testing.T, s string, x *sheet.Sheet) api.Node {
	t.Helper()
	n, _, e := parse.Formula(s, x.Rows, x.Cols)
	if e != api.OK {
		t.Fatal(s, e)
	}
	return n
}

func TestP20_1(t *testing.T) {
	s := sheet.New(6, 5)
	s.Names.Set("X", read(t, "D1*2", s))
	for f, want := range map[string][2]string{
		"SUM(B1:B3)+IF(FALSE,C1,X)": {"B1 B2 B3 C1 D1", ""}, "A1+A1+A1:B2": {"A1 B1 A2 B2", ""}, "B2:A1": {"A1 B1 A2 B2", ""}, "A:B": {"A1 B1 A2 B2 A3 B3 A4 B4 A5 B5 A6 B6", ""}, "2:2": {"A2 B2 C2 D2 E2", ""}, "A1#+B2#+A1#+X": {"D1", "A1 B2"}, "1+NEW": {"", ""}, "LET(X,1,X)+E6": {"E6", ""}, "SUM(C3,C2:C4,C1)": {"C3 C2 C4 C1", ""},
	} {
		n := read(t, f, s)
		if told(Reads(n, s)) != want[0] || told(Spills(n, s)) != want[1] {
			t.Error(f, told(Reads(n, s)), told(Spills(n, s)))
		}
		if told(Reads(n, nil)) != "" || told(Spills(n, nil)) != "" || told(Reads(n, &sheet.Sheet{})) != "" {
			t.Error("no sheet")
		}
	}
	n := read(t, "SUM(B1:B3)+IF(FALSE,C1,X)+C3#+B2+D3#", s)
	s.Rows.Delete(id(2))
	s.Cols.Delete(id(4))
	if told(Reads(n, s)) != "B1 B3 C1" || told(Spills(n, s)) != "C3" {
		t.Error(told(Reads(n, s)), told(Spills(n, s)))
	}
	for range Reads(n, s) {
		break
	}
	n.Name = "?"
	if told(Reads(n, s)) != "" || told(Spills(api.Node{Kind: api.Spill}, s)) != "" {
		t.Error("one that Check doesn't let by")
	}
	wide := sheet.New(64, 65)
	if got := told(Reads(read(t, "SUM(A:BM,A1)", wide), wide)); got != "A1" {
		t.Error(len(got))
	}
	if got := told(Reads(read(t, "SUM(A:BL)", wide), wide)); len(strings.Fields(got)) != 4096 {
		t.Error(len(got))
	}
	bare := &sheet.Sheet{Rows: wide.Rows, Cols: wide.Cols}
	if told(Reads(read(t, "B2+X", wide), bare)) != "B2" {
		t.Error("without names")
	}
}

func TestP20_2_P20_3(t *testing.T) {
	s := sheet.New(4, 3)
	for place, text := range map[string]string{"A1": "=B1:B2", "A2": "=SUM(A1:C1)", "C3": "=B1", "B4": "5", "A4": "=B1#", "C1": "=TAX"} {
		m, _ := addr.Parse(place)
		s.Type(m.Row, m.Col, text)
	}
	at := func(place string) api.Cell {
		m, _ := addr.Parse(place)
		return api.Cell{Row: id(m.Row + 1), Col: id(m.Col + 1)}
	}
	x := New(s)
	readers := func(place, want string) {
		t.Helper()
		if got := told(slices.Values(x.Readers(at(place)))); got != want {
			t.Error(place, got)
		}
	}
	if x.Len() != 5 {
		t.Error(x.Len())
	}
	readers("B1", "A1 A2 C3")
	readers("B2", "A1")
	readers("C1", "A2")
	readers("B4", "")
	readers("Z9", "")
	s.Names.Set("TAX", read(t, "B4", s))
	readers("B4", "C1")
	x.Put(at("B3"), read(t, "B1", s))
	x.Put(at("A1"), read(t, "B4", s))
	x.Put(api.Cell{Row: id(1)}, read(t, "B1", s))
	readers("B1", "A2 B3 C3")
	readers("B4", "A1 C1")
	x.Drop(at("B3"))
	x.Drop(at("B3"))
	readers("B1", "A2 C3")
	s.Type(3, 2, "=B1")
	readers("B1", "A2 C3")
	s.Rows.Delete(id(3))
	readers("B1", "A2")
	s.Rows.Revive(id(3))
	s.Rows.Insert(api.Id{}, id(77))
	readers("B1", "A2 C3")
	s.Rows.Delete(id(1))
	readers("B1", "")
	n := read(t, "B2+B3", s)
	x.Put(at("B4"), n)
	kept := tree.Map(n, nil)
	n.L[0] = api.Node{}
	if got := x.Readers(api.Cell{Row: kept.L[0].Area.A.Row, Col: kept.L[0].Area.A.Col}); !slices.Contains(got, at("B4")) {
		t.Error("not apart")
	}
	dead := sheet.New(2, 2)
	dead.Type(0, 0, "=B2")
	dead.Rows.Delete(id(1))
	y := New(dead)
	if y.Len() != 1 || y.Readers(at("B2")) != nil {
		t.Error("a dead one")
	}
	dead.Rows.Revive(id(1))
	if len(y.Readers(at("B2"))) != 1 {
		t.Error("it lives again")
	}
	var none *Index
	none.Put(at("A1"), kept)
	none.Drop(at("A1"))
	if none.Len() != 0 || none.Readers(at("A1")) != nil {
		t.Error("nil")
	}
	for _, z := range []*Index{New(nil), New(&sheet.Sheet{}), {}} {
		z.Put(at("A1"), kept)
		if z.Len() != 1 || z.Readers(at("A1")) != nil || z.Readers(api.Cell{}) != nil {
			t.Error("no sheet")
		}
		z.Drop(at("A1"))
		if z.Len() != 0 {
			t.Error("drop")
		}
	}
}
