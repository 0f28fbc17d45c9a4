package names

import (
	"slices"
	"strconv"
	"strings"
	"testing"

	"counterpane/api"
	"counterpane/axis"
	"counterpane/parse"
	"counterpane/tree"
)

var rows, cols = axis.New(api.Id{N: 1}, api.Id{N: 2}), axis.New(api.Id{N: 1}, api.Id{N: 2})

func read(s string) api.Node {
	n, _, e := parse.Formula(s, rows, cols)
	if e != api.OK {
		panic(s)
	}
	return n
}

func TestP17_1(t *testing.T) {
	x := New()
	for i, c := range []struct{ got, want api.Errno }{
		{x.Set("tax", read("1")), api.ErrName}, {x.Set("R1C1", api.Node{}), api.ErrName}, {x.Set("", read("1")), api.ErrName}, {x.Set("TAX", api.Node{}), api.ErrForm}, {x.Set("TAX", read("B")), api.ErrKind}, {x.Set("TAX", read("TAX+1")), api.ErrKind}, {x.Set("TAX", read("LET(B,1,B)")), api.OK}, {x.Set("TAX", read("LET(B,B,1)")), api.ErrKind}, {x.Set("TAX", read("LET(B,1,D,B,D)")), api.OK}, {x.Set("TAX", read("LET(B,1,D,D,D)")), api.ErrKind}, {x.Set("TAX", read("LET(B,1,B)+B")), api.ErrKind}, {x.Set("TAX", read("LET(B,1)")), api.ErrKind}, {x.Set("TAX", read("LET(1,B,2)")), api.ErrKind}, {x.Set("TAX", read("LET(B+1,1,B)")), api.ErrKind}, {x.Set("TAX", read("SUM(B,1,B)")), api.ErrKind}, {x.Set("TAX", read("LET(B,1,SUM(B,LET(D,B,D+B)))")), api.OK}, {x.Set("TAX", read("LET(B,LET(B,2,B),B)")), api.OK}, {x.Set("TAX", read("LET(B,1,LET(D,2,1)+D)")), api.ErrKind}, {x.Set("TAX", read("0.2")), api.OK},
		{x.Drop("TAXES"), api.ErrNone}, {x.Drop(""), api.ErrNone}, {x.Set("A", read("A1:B2")), api.OK}, {x.Drop("A"), api.OK}, {x.Drop("A"), api.ErrNone},
	} {
		if c.got != c.want {
			t.Error(i, c)
		}
	}
	if n, ok := x.Get("TAX"); !ok || !tree.Same(n, read("0.2")) {
		t.Error(n)
	}
	if n, ok := x.Get("A"); ok || !tree.Same(n, api.Node{}) {
		t.Error(n)
	}
	in := read("1+2")
	x.Set("Z", in)
	in.L[0] = read("9")
	out, _ := x.Get("Z")
	out.L[0] = read("8")
	if n, _ := x.Get("Z"); !tree.Same(n, read("1+2")) {
		t.Error("not apart")
	}
	for i := x.count(); i < 100; i++ {
		if e := x.Set("N_"+strconv.Itoa(i), read("1")); e != api.OK {
			t.Fatal(e)
		}
	}
	if x.Set("M_", read("1")) != api.ErrFull || x.Set("Z", read("2")) != api.OK || x.Set("M_", read("Q")) != api.ErrKind {
		t.Error("full")
	}
	var l []string
	for name, n := range x.All() {
		l = append(l, name)
		if len(n.L) > 0 {
			n.L[0] = api.Node{}
		}
	}
	if !slices.IsSorted(l) || len(l) != 100 {
		t.Error(l)
	}
	for range x.All() {
		break
	}
	if !Right("TAX") || Right("tax") || Right("A1") || Right("TRUE") || Right(strings.Repeat("A", 33)) || Right("RC") {
		t.Error("right")
	}
}

// count tells how many names there are.
func (t *Table) count() int { return len(t.trees) }

func TestP17_2_P17_3(t *testing.T) {
	x := New()
	for name, s := range map[string]string{"TAX": "0.2", "AREA": "A1:B2", "OWN": "LET(TAX,1,TAX)"} {
		if e := x.Set(name, read(s)); e != api.OK {
			t.Fatal(name, e)
		}
	}
	for s, want := range map[string]string{
		"TAX*A1": "0.2*A1", "LET(TAX,TAX,TAX+B1)": "LET(TAX,0.2,TAX+B1)", "SUM(AREA,NEW)+OWN": "SUM(A1:B2,NEW)+LET(TAX,1,TAX)", "LET(B,TAX,TAX,B,TAX)": "LET(B,0.2,TAX,B,TAX)", "LET(TAX,1,LET(B,TAX,B+TAX))+TAX": "LET(TAX,1,LET(B,TAX,B+TAX))+0.2", "LET(TAX,1)": "LET(0.2,1)", "LET(TAX,1,B,2)": "LET(0.2,1,B,2)", "LET(TAX+1,TAX,TAX)": "LET(0.2+1,0.2,0.2)", "LET(1,TAX,TAX)": "LET(1,0.2,0.2)", "LET(TAX,1,TAX,TAX,TAX)": "LET(TAX,1,TAX,TAX,TAX)", "TAX": "0.2", "IF(TAX,TAX,TAX)": "IF(0.2,0.2,0.2)",
	} {
		n := read(s)
		kept := tree.Map(n, nil)
		got := x.Expand(n)
		if !tree.Same(got, read(want)) || !tree.Same(n, kept) || !tree.Same(x.Expand(got), got) {
			t.Error(s)
		}
		for i := range got.L {
			got.L[i] = api.Node{}
		}
		if !tree.Same(n, kept) {
			t.Error("an argument's memory")
		}
	}
	c := x.Clone()
	c.Drop("TAX")
	c.Set("NEW", read("1"))
	if _, ok := x.Get("TAX"); !ok {
		t.Error("not apart")
	}
	if _, ok := x.Get("NEW"); ok {
		t.Error("not apart")
	}
	odd := api.Node{Kind: 77, Name: "TAX", L: []api.Node{{Kind: api.Name, Name: "TAX"}}}
	if n := x.Expand(odd); !tree.Same(n.L[0], read("0.2")) {
		t.Error(n)
	}
	var none *Table
	if none.Set("A", read("1")) != api.ErrArg || none.Drop("A") != api.ErrArg || !tree.Same(none.Expand(odd), odd) || none.Clone() == nil {
		t.Error("nil")
	}
	if _, ok := none.Get("A"); ok {
		t.Error("nil")
	}
	for range none.All() {
		t.Error("nil")
	}
	var zero Table
	if _, ok := zero.Get("A"); ok || zero.Drop("A") != api.ErrNone || zero.Set("A", read("1")) != api.OK {
		t.Error("zero")
	}
}
