package tree

import (
	"math"
	"slices"
	"strings"
	"testing"

	"counterpane/api"
)

func ident(n int) api.Id { return api.Id{Author: 0, N: n} }

func num(mant, exp int) api.Node {
	return api.Node{Value: api.Value{Kind: api.Number, Num: api.Num{Mant: mant, Exp: exp}}}
}

func text(s string) api.Node { return api.Node{Value: api.Value{Kind: api.String, Text: s}} }

func at(row, col int, fixRow, fixCol bool) api.Corner {
	c := api.Corner{FixRow: fixRow, FixCol: fixCol}
	if row != 0 {
		c.Row = ident(row)
	}
	if col != 0 {
		c.Col = ident(col)
	}
	return c
}

func one(row, col int) api.Node {
	return api.Node{Kind: api.One, Area: api.Area{A: at(row, col, false, false)}}
}

func with(kind int, name string, l ...api.Node) api.Node {
	return api.Node{Kind: kind, Name: name, L: l}
}

func span(a, b api.Corner) api.Node {
	return api.Node{Kind: api.Range, Area: api.Area{A: a, B: b}}
}

func deep(levels int) api.Node {
	n := num(1, 0)
	for range levels - 1 {
		n = with(api.Unary, "-", n)
	}
	return n
}

func wide(nodes int) api.Node {
	n := num(1, 0)
	for Size(n) < nodes-1 {
		n = with(api.Binary, "+", num(1, 0), n)
	}
	return n
}

var missing = api.Node{Kind: api.Missing}

var rights = map[string]api.Node{
	"B+;N1e0;O0.1,0.1,0;":                 with(api.Binary, "+", num(1, 0), one(1, 1)),
	"S3:a;b;":                             text("a;b"),
	"S0:;":                                text(""),
	"T;":                                  {Value: api.Value{Kind: api.Bool, Truth: true}},
	"F;":                                  {Value: api.Value{Kind: api.Bool}},
	"E9;":                                 {Value: api.Value{Kind: api.Fault, Fault: 9}},
	"N5e-3;":                              num(5, -3),
	"P-3.5,0.2,3;":                        {Kind: api.Spill, Area: api.Area{A: api.Corner{Row: api.Id{Author: -3, N: 5}, Col: ident(2), FixRow: true, FixCol: true}}},
	"R0.1,0.2,1:0.3,0.4,2;":               span(at(1, 2, true, false), at(3, 4, false, true)),
	"R0.1,0.0,1:0.3,0.0,0;":               span(at(1, 0, true, false), at(3, 0, false, false)),
	"R0.0,0.1,0:0.0,0.3,2;":               span(at(0, 1, false, false), at(0, 3, false, true)),
	"C3:SUM,2;X;N1e0;":                    with(api.Call, "SUM", missing, num(1, 0)),
	"C2:NA,0;":                            with(api.Call, "NA"),
	"U%;M5:TAX_1;":                        with(api.Unary, "%", with(api.Name, "TAX_1")),
	"A2,4;N-5e0;S1:a;T;E6;":               {Kind: api.Matrix, Rows: 2, L: []api.Node{num(-5, 0), text("a"), {Value: api.Value{Kind: api.Bool, Truth: true}}, {Value: api.Value{Kind: api.Fault, Fault: 6}}}},
	"B<>;U-;C4:A.B9,2;X;X;A1,1;N0e0;":     with(api.Binary, "<>", with(api.Unary, "-", with(api.Call, "A.B9", missing, missing)), api.Node{Kind: api.Matrix, Rows: 1, L: []api.Node{num(0, 0)}}),
	"B&;M2:_.;R0.9,0.0,0:0.9,0.0,0;":      with(api.Binary, "&", with(api.Name, "_."), span(at(9, 0, false, false), at(9, 0, false, false))),
	"C2:A0,1;P0.1,9223372036854775807,1;": {},
}

func TestP6_4(t *testing.T) {
	for s, n := range rights {
		if n.Kind == 0 && n.Value.Kind == 0 {
			continue
		}
		if code, e := Code(n); code != s || e != api.OK {
			t.Errorf("%s: %s %v", s, code, e)
		}
		if m, e := Decode(s); e != api.OK || !Same(m, n) {
			t.Errorf("%s: %v %v", s, m, e)
		}
		for i := range len(s) {
			if m, e := Decode(s[:i]); e != api.ErrForm || !Same(m, api.Node{}) {
				t.Errorf("%s", s[:i])
			}
		}
	}
	for _, s := range []string{"", ";", "X;", "N01e0;", "N+1e0;", "N10e0;", "N-1e0;", "N1e0", "N1e0;N1e0;", "N1E0;", "Ne;", "S2:a;", "S-1:;", "S01:a;", "S99999999999999999999:a;", "T", "t;", "E0;", "E10;", "O0.1,0.1,4;", "O0.1,0.1,-0;", "O0.0,0.1,0;", "O0.1,0.1;", "O0.1,0.-1,00;", "R0.1,0.0,2:0.1,0.0,0;", "R0.1,0.1,0:0.1,0.0,0;", "R0.0,0.0,0:0.0,0.0,0;", "C3:SUM,1;X;", "C3:SUM,-1;", "C2:A1,0;", "C3:SUM,999999999;N1e0;", "C3:sum,0;", "U;N1e0;", "U*;N1e0;", "U-;X;", "B+;N1e0;", "B=>;N1e0;N1e0;", "M4:TRUE;", "M2:A1;", "A0,1;N1e0;", "A2,3;N1e0;N1e0;N1e0;", "A1,0;", "A1,1;X;", "A1,1;U-;N1e0;", "Z;", "S256:" + strings.Repeat("x", 256) + ";", strings.Repeat("U-;", 1<<17)} {
		if n, e := Decode(s); e != api.ErrForm || !Same(n, api.Node{}) {
			t.Errorf("%.30q: %v", s, e)
		}
	}
	if _, e := Decode(strings.Repeat("U-;", 31) + "N1e0;"); e != api.OK {
		t.Error(e)
	}
	if s, e := Code(missing); s != "" || e != api.ErrForm {
		t.Error(s, e)
	}
	if s, e := Code(deep(33)); s != "" || e != api.ErrDeep {
		t.Error(s, e)
	}
}

func TestP6_2(t *testing.T) {
	for _, c := range []struct {
		n api.Node
		e api.Errno
	}{
		{deep(32), api.OK}, {deep(33), api.ErrDeep}, {deep(256), api.ErrDeep}, {deep(257), api.ErrFull}, {wide(300), api.ErrFull},
		{with(api.Call, "SUM", with(api.Unary, "?", deep(40))), api.ErrDeep}, {with(api.Call, "?", slices.Repeat([]api.Node{num(1, 0)}, 256)...), api.ErrFull},
		{with(api.Call, "SUM", slices.Repeat([]api.Node{num(1, 0)}, 32)...), api.OK}, {with(api.Call, "SUM", slices.Repeat([]api.Node{num(1, 0)}, 33)...), api.ErrForm},
		{api.Node{Kind: api.Matrix, Rows: 5, L: slices.Repeat([]api.Node{num(1, 0)}, 255)}, api.OK}, {api.Node{Kind: api.Matrix, Rows: 1, L: slices.Repeat([]api.Node{num(1, 0)}, 256)}, api.ErrFull},
	} {
		if e := Check(c.n); e != c.e {
			t.Error(c.e, e)
		}
	}
	spoil := []func(n *api.Node){
		func(n *api.Node) { n.Kind = 10 }, func(n *api.Node) { n.Kind = -1 }, func(n *api.Node) { n.Kind = math.MinInt }, func(n *api.Node) { n.Kind = api.Missing },
		func(n *api.Node) {
			if n.Kind == api.Lit {
				n.Name = "A"
			} else {
				n.Value.Truth = true
			}
		},
		func(n *api.Node) {
			if n.Kind == api.Matrix {
				n.Rows = 0
			} else {
				n.Rows = -1
			}
		},
		func(n *api.Node) {
			if n.Kind == api.Range {
				n.Area.B = api.Corner{}
			} else {
				n.Area.B.FixRow = true
			}
		},
		func(n *api.Node) {
			if n.Kind == api.Call {
				n.L = []api.Node{missing}
			} else {
				n.L = append(slices.Clone(n.L), num(1, 0))
				if n.Kind == api.Matrix {
					n.L = append(n.L, one(1, 1))
				}
			}
		},
	}
	for s, n := range rights {
		for i, f := range spoil {
			m := Map(n, nil)
			f(&m)
			if e := Check(m); e != api.ErrForm {
				t.Error(s, i, e)
			}
			if e := Check(with(api.Call, "F", num(1, 0), with(api.Unary, "-", m))); e != api.ErrForm {
				t.Error(s, i, e)
			}
		}
	}
	if Check(num(-1, 0)) != api.ErrForm || Check(with(api.Call, "F", num(-1, 0))) != api.ErrForm || Check(with(api.Call, "F", missing, with(api.Unary, "-", missing))) != api.ErrForm || Check(api.Node{}) != api.ErrForm {
		t.Error("form")
	}
	for _, l := range []api.Node{span(at(1, 0, false, true), at(1, 0, false, false)), span(at(0, 1, false, false), at(0, 1, true, false)), span(at(1, 1, false, false), at(1, 0, false, false)), one(0, 1), one(1, 0)} {
		if Check(l) != api.ErrForm {
			t.Error(l)
		}
	}
}

func TestP6_2_names(t *testing.T) {
	for s, want := range map[string][2]bool{ // a function's, a name
		"A": {true, true}, "SUM": {true, true}, "A1": {false, false}, "A0": {true, false}, "A01": {true, false}, "ABC1234567": {false, false}, "ABC12345678": {true, false}, "ABCD1": {true, true}, "A.B": {true, true}, "A_B": {false, true}, "_": {false, true}, "_1": {false, true}, ".A": {false, false}, "1A": {false, false}, "": {false, false}, "a": {false, false}, "TRUE": {true, false}, "FALSE": {true, false}, "R": {true, false}, "C": {true, false}, "RC": {true, false}, "R1C1": {true, false}, "R0C": {true, false}, "RC5": {false, false}, "C5": {false, false}, "CR": {true, true}, "RCR": {true, true}, "R1C1R": {true, true}, "RR": {true, true}, "A1.": {true, true}, "A1B": {true, true}, "LOG10": {false, false}, "É": {false, false}, strings.Repeat("A", 32): {true, true}, strings.Repeat("A", 33): {false, false}, "A B": {false, false}, "R1C1_": {false, true},
	} {
		if got := Check(with(api.Call, s)) == api.OK; got != want[0] {
			t.Error("function", s, got)
		}
		if got := Check(with(api.Name, s)) == api.OK; got != want[1] {
			t.Error("name", s, got)
		}
	}
	for _, s := range strings.Split("- + % * / ^ & = <> < <= > >= == ~ <>_ ,", " ") {
		if got := Check(with(api.Unary, s, num(1, 0))) == api.OK; got != strings.Contains("-+%", s) {
			t.Error(s)
		}
		if got := Check(with(api.Binary, s, num(1, 0), num(1, 0))) == api.OK; got != slices.Contains(strings.Fields("- + * / ^ & = <> < <= > >="), s) {
			t.Error(s)
		}
	}
	for _, s := range []string{"", " ", "- ", "- +", " -"} {
		if Check(with(api.Unary, s, num(1, 0))) == api.OK || Check(with(api.Binary, s, num(1, 0), num(1, 0))) == api.OK {
			t.Errorf("%q", s)
		}
	}
}

func TestP6_1(t *testing.T) {
	n := with(api.Call, "F", with(api.Binary, "+", with(api.Name, "X"), one(1, 2)), missing, span(at(1, 0, false, false), at(2, 0, true, false)), with(api.Name, "Y"), with(api.Unary, "-", with(api.Name, "X")), api.Node{Kind: api.Spill, Area: api.Area{A: at(5, 6, true, true)}})
	if Size(n) != 10 || Depth(n) != 3 || Size(num(1, 0)) != 1 || Depth(num(1, 0)) != 1 || Size(deep(100000)) != 100000 || Depth(deep(100000)) != 100000 {
		t.Error(Size(n), Depth(n))
	}
	count := 0
	for range All(deep(50000)) {
		count++
	}
	if count != 50000 {
		t.Error(count)
	}
	kept := Map(n, nil)
	var kinds []int
	for x := range All(n) {
		kinds = append(kinds, x.Kind)
		for i := range x.L {
			x.L[i] = missing
		}
	}
	if !slices.Equal(kinds, []int{api.Call, api.Binary, api.Name, api.One, api.Missing, api.Range, api.Name, api.Unary, api.Name, api.Spill}) {
		t.Error(kinds)
	}
	if !Same(n, kept) {
		t.Error("written over")
	}
	var rows []api.Id
	for a := range Areas(n) {
		rows = append(rows, a.A.Row)
	}
	if !slices.Equal(rows, []api.Id{ident(1), ident(1), ident(5)}) || !slices.Equal(Names(n), []string{"X", "Y"}) || Names(num(1, 0)) != nil {
		t.Error(rows, Names(n))
	}
	for range All(n) {
		break
	}
	for range Areas(n) {
		break
	}
	for s, a := range rights {
		for u, b := range rights {
			if Same(a, b) != (s == u) {
				t.Error(s, u)
			}
		}
	}
	m := Map(n, nil)
	m.L[0].L[1].Area.B.FixCol = true
	if Same(m, n) || !Same(api.Node{L: []api.Node{}}, api.Node{}) {
		t.Error("same")
	}
}

func TestP6_3(t *testing.T) {
	n := with(api.Binary, "+", num(1, 0), with(api.Unary, "-", num(2, 0)))
	kept := Map(n, nil)
	shared := with(api.Call, "G", num(7, 0))
	var came []string
	m := Map(n, func(x api.Node) api.Node {
		came = append(came, x.Name+x.Value.Text)
		switch {
		case x.Kind == api.Lit && x.Value.Num.Mant == 2:
			return shared
		case x.Kind == api.Unary && x.L[0].Name != "G":
			t.Error("not what it became")
		case x.Kind == api.Binary:
			x.L[0] = text("new")
		}
		return x
	})
	if !slices.Equal(came, []string{"", "", "-", "+"}) || !Same(m, with(api.Binary, "+", text("new"), with(api.Unary, "-", shared))) || !Same(n, kept) {
		t.Error(came, m)
	}
	m.L[1].L[0].L[0] = missing
	c := Map(n, nil)
	c.L[1].L[0] = missing
	if shared.L[0].Kind == api.Missing || !Same(n, kept) {
		t.Error("not in new memory")
	}
}
