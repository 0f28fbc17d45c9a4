package eval

import (
	"maps"
	"math"
	"slices"
	"strings"
	"testing"

	"counterpane/addr"
	"counterpane/api"
	"counterpane/funcs"
	"counterpane/parse"
	"counterpane/shape"
	"counterpane/sheet"
	"counterpane/value"
)

// arr reads rows with | between, of values with ~ between; none is Blank, ' ahead tells a text.
func arr(s string) api.Array {
	a := api.Array{}
	for _, row := range strings.Split(s, "|") {
		a.Rows++
		words := strings.Split(row, "~")
		a.Cols = len(words)
		for _, w := range words {
			if strings.HasPrefix(w, "'") {
				a.L = append(a.L, value.Text(w[1:]))
			} else {
				a.L = append(a.L, value.Read(w))
			}
		}
	}
	return a
}

// shown is a view by the cells' texts.
type shown struct {
	s      *sheet.Sheet
	values map[string]api.Value
	spills map[string][2]int
	asked  map[string]bool
}

func text(c api.Cell) string {
	return addr.Text(addr.Mark{Row: c.Row.N - 1, Col: c.Col.N - 1})
}

func (v *shown) Value(c api.Cell) api.Value {
	v.asked[text(c)] = true
	return v.values[text(c)]
}

func (v *shown) Spill(c api.Cell) (int, int, bool) {
	v.asked[text(c)+"#"] = true
	n, ok := v.spills[text(c)]
	return n[0], n[1], ok
}

func (v *shown) Sheet() *sheet.Sheet { return v.s }

func view(rows, cols int) *shown {
	return &shown{sheet.New(rows, cols), map[string]api.Value{"A1": value.Read("1"), "A2": value.Read("2"), "B1": value.Read("x"), "C1": {Kind: 9}, "B3": value.Read("#REF!")}, map[string][2]int{"A1": {2, 2}, "A2": {0, 1}, "A3": {1, -1}, "B1": {4096, 2}, "B2": {9, 1}, "B3": {1, 1}, "C2": {math.MaxInt, math.MaxInt}}, map[string]bool{}}
}

func read(t *testing.T, s string, x *sheet.Sheet) api.Node {
	t.Helper()
	n, _, e := parse.Formula(s, x.Rows, x.Cols)
	if e != api.OK {
		t.Fatal(s, e)
	}
	return n
}

func check(t *testing.T, cases ...string) {
	t.Helper()
	v := view(4, 3)
	v.s.Names.Set("TAX", read(t, "A2*10", v.s))
	for _, c := range cases {
		f, want, _ := strings.Cut(c, " -> ")
		got := Eval(read(t, f, v.s), v, funcs.Lib{})
		if !shape.Same(got, arr(want)) || !shape.Right(got) {
			t.Error(c, got)
		}
	}
}

func TestP22_1_nodes(t *testing.T) {
	check(t, "5 -> 5", "\"a\" -> 'a", "A1 -> 1", "B2 -> ", "C1 -> #CALC!", "A1:B3 -> 1~x|2~|~#REF!", "B3:A2 -> 2~|~#REF!", "A:A -> 1|2||", "2:2 -> 2~~", "A1# -> 1~x|2~", "A2# -> #REF!", "A3# -> #REF!", "C3# -> #REF!", "B1# -> #NUM!", "C2# -> #NUM!", "B2# -> |#REF!||#REF!|#REF!|#REF!|#REF!|#REF!|#REF!", "B3# -> #REF!", "-A1:A2 -> -1|-2", "A1:A2+10 -> 11|12", "50% -> 0.5", "{1,-2;TRUE,#N/A} -> 1~-2|TRUE~#N/A", "NEW -> #NAME?", "TAX+1 -> 21", "FOO(1) -> #NAME?", "SUM(A1:A2,5) -> 8", "COUNTA(,1) -> 1", "SUM(NEW) -> #NAME?", "A1:B1&\"!\" -> 1!~x!", "C1:C1 -> #CALC!")
}

func TestP22_1_lazy(t *testing.T) {
	check(t,
		"IF(TRUE,1,1/0) -> 1", "IF(0,1/0) -> FALSE", "IF(A2,A1) -> 1", "IF(\"x\",1,2) -> #VALUE!", "IF(#N/A,1,2) -> #N/A", "IF(B2,1,2) -> 2", "IF({TRUE,FALSE},1,2) -> 1~2", "IF({TRUE,FALSE},{1,2,3},9) -> 1~9~#N/A", "IF({TRUE;\"x\";#N/A},1) -> 1|#VALUE!|#N/A", "IF({1;0},{5,6},{7;8}) -> 5~6|8~8", "IF({1;0},{5,6,7;8,9,10},{1,2}) -> 5~6~#N/A|1~2~#N/A", "IF(TRUE,{1,2},3) -> 1~2", "IF(1) -> #VALUE!", "IF(1,2,3,4) -> #VALUE!", "IF() -> #VALUE!", "IF(FALSE,1,) -> ", "IF(,1,2) -> 2", "IF({1,0},,5) -> ~5",
		"IFERROR(1/0,5) -> 5", "IFERROR(7,1/0) -> 7", "IFERROR({1,#N/A,#REF!},{5,6,7}) -> 1~6~7", "IFERROR({1,#N/A},{5,6,7}) -> 1~6~#N/A", "IFERROR(1) -> #VALUE!", "IFERROR(1,2,3) -> #VALUE!", "IFERROR(#N/A,{1,2}) -> 1~2", "IFNA(#N/A,5) -> 5", "IFNA(#REF!,5) -> #REF!", "IFNA({#N/A;#REF!;1},0) -> 0|#REF!|1", "IFNA(1) -> #VALUE!", "IFNA(#N/A,) -> ",
		"CHOOSE(2,1/0,7) -> 7", "CHOOSE(2.9,1,{7,8}) -> 7~8", "CHOOSE(0,1) -> #VALUE!", "CHOOSE(3,1,2) -> #VALUE!", "CHOOSE(1E30,1) -> #VALUE!", "CHOOSE(\"x\",1) -> #VALUE!", "CHOOSE(#N/A,1) -> #N/A", "CHOOSE({2,1},5,6) -> 6", "CHOOSE(1) -> #VALUE!", "CHOOSE() -> #VALUE!", "CHOOSE(-1,1) -> #VALUE!",
		"SWITCH(2,1,\"a\",2,\"b\") -> b", "SWITCH(3,1,\"a\",2,\"b\") -> #N/A", "SWITCH(3,1,\"a\",\"z\") -> z", "SWITCH(#REF!,1,2) -> #REF!", "SWITCH(1,#N/A,2,1,3) -> #N/A", "SWITCH(1,1,2,#N/A,3) -> 2", "SWITCH(\"A\",\"a\",{1,2}) -> 1~2", "SWITCH(1,2) -> #VALUE!", "SWITCH(0,B2,5) -> 5", "SWITCH({2,1},{2,7},5) -> 5", "SWITCH(1,2,3,1/0) -> #DIV/0!", "SWITCH(1) -> #VALUE!",
		"LET(X,2,X*X) -> 4", "LET(X,2,Y,X+1,X*Y) -> 6", "LET(X,1,X,X+1,X) -> 2", "LET(X,1,LET(X,5,X)+X) -> 6", "LET(X,LET(X,5,X),X) -> 5", "LET(X,1,Y,LET(X,9,X),X+Y) -> 10", "LET(X,1) -> #VALUE!", "LET(X,1,Y,2) -> #VALUE!", "LET(1,2,3) -> #NAME?", "LET(X,1,2,3,4) -> #NAME?", "LET(X,X,X) -> #NAME?", "LET(X,{1,2},X+X) -> 2~4", "LET(X,1,Y) -> #NAME?", "LET(X,1/0,5) -> 5", "LET() -> #VALUE!", "LET(TAX,3,TAX)+TAX -> 23", "LET(X,1,Z,LET(A,2,A),LET(B,3,X+B)) -> 4", "LET(X,TAX,X) -> 20",
	)
	big := view(70, 70)
	for f, want := range map[string]string{"IF(A1:A65=1,A1:BL1,2)": "#NUM!", "IFERROR(A1:A65,A1:BL1)": "#NUM!", "A1:A65+A1:BL1": "#NUM!", "A1:BM64": "#NUM!"} {
		if got := Eval(read(t, f, big.s), big, funcs.Lib{}); !shape.Same(got, arr(want)) {
			t.Error(f, got)
		}
	}
	if got := Eval(read(t, "A1:BL64", big.s), big, nil); got.Rows != 64 || got.Cols != 64 {
		t.Error(got.Rows)
	}
	for _, name := range strings.Fields("IF IFERROR IFNA CHOOSE SWITCH LET") {
		if !Lazy(name) || Lazy(strings.ToLower(name)) {
			t.Error(name)
		}
	}
	if Lazy("") || Lazy("SUM") {
		t.Error("lazy")
	}
}

// odd is a library that tells what may not be, and notes what it is asked.
type odd struct{ asked *[]string }

func (o odd) Call(name string, args []api.Array) (api.Array, bool) {
	*o.asked = append(*o.asked, name)
	return api.Array{Rows: 1, Cols: 9}, true
}

func TestP22_1_wrong_P22_3(t *testing.T) {
	v := view(4, 3)
	calc := arr("#CALC!")
	for _, n := range []api.Node{{}, {Kind: 77}, {Kind: api.Missing}} {
		if !shape.Same(Eval(n, v, nil), calc) {
			t.Error(n)
		}
	}
	one := read(t, "1", v.s)
	if !shape.Same(Eval(one, nil, nil), calc) || !shape.Same(Eval(one, &shown{}, nil), calc) || !shape.Same(Eval(read(t, "SUM(1)", v.s), v, nil), arr("#NAME?")) {
		t.Error("nil")
	}
	if got := Eval(read(t, "A1+A1:B2+B1#", v.s), &shown{s: &sheet.Sheet{}, asked: map[string]bool{}}, nil); !shape.Same(got, arr("#REF!")) {
		t.Error(got)
	}
	asked := []string{}
	if got := Eval(read(t, "IF(TRUE,F(1),LET(X,1,G(X)))+IFERROR(H(),1)", v.s), v, odd{&asked}); !shape.Same(got, calc) || !slices.Equal(asked, []string{"F", "H"}) {
		t.Error(got, asked)
	}
	v.asked = map[string]bool{}
	Eval(read(t, "IF(A2>0,A1,B2)+SUM(C2:C3)+B3#+C9", sheet.New(9, 9)), v, funcs.Lib{})
	if l := slices.Sorted(maps.Keys(v.asked)); !slices.Equal(l, strings.Fields("A1 A2 B3 B3# C2 C3")) {
		t.Error(l)
	}
	n := read(t, "A2+A1:B2+A1#+C:C+3:3", v.s)
	v.s.Rows.Delete(api.Id{N: 2})
	if got := Eval(n.L[0].L[0].L[0], v, nil); !shape.Same(got, arr("#REF!~#REF!")) {
		t.Error(got)
	}
	v.s.Rows.Delete(api.Id{N: 3})
	if got := Eval(n.L[1], v, nil); !shape.Same(got, arr("#REF!")) {
		t.Error(got)
	}
	v.s.Rows.Delete(api.Id{N: 1})
	if got := Eval(n.L[0].L[0].L[1], v, nil); !shape.Same(got, arr("#REF!")) {
		t.Error(got)
	}
}

func TestP22_2(t *testing.T) {
	in := arr("1~|#N/A~'")
	if got := Final(in); !shape.Same(got, arr("1~0|#N/A~'")) || !shape.Same(in, arr("1~|#N/A~'")) {
		t.Error(got)
	}
	if !shape.Same(Final(api.Array{Rows: 2}), arr("#CALC!")) {
		t.Error("broken")
	}
}
