package parse

import (
	"math/rand"
	"strings"
	"testing"

	"counterpane/api"
	"counterpane/axis"
	"counterpane/tree"
)

func line(author, n int) *axis.Axis {
	a := axis.New()
	for i := n; i > 0; i-- {
		a.Insert(api.Id{}, api.Id{Author: author, N: i})
	}
	return a
}

var rows, cols = line(1, 9), line(2, 5)

func TestP7_1_trees(t *testing.T) {
	for s, want := range map[string]string{
		"-2^2":              "B^;U-;N2e0;N2e0;",
		"1-2-3":             "B-;B-;N1e0;N2e0;N3e0;",
		"1+2*3^4&5=6":       "B=;B&;B+;N1e0;B*;N2e0;B^;N3e0;N4e0;N5e0;N6e0;",
		"-+1%%":             "U-;U+;U%;U%;N1e0;",
		"2^-3":              "B^;N2e0;U-;N3e0;",
		"(1<>2)>=3":         "B>=;B<>;N1e0;N2e0;N3e0;",
		"1<2<=3>4":          "B>;B<=;B<;N1e0;N2e0;N3e0;N4e0;",
		"SUM(,1)":           "C3:SUM,2;X;N1e0;",
		"sum()":             "C3:SUM,0;",
		"F(,)":              "C1:F,2;X;X;",
		"F(1,,(2))":         "C1:F,3;N1e0;X;N2e0;",
		"true":              "T;",
		"TRUE()":            "C4:TRUE,0;",
		"False&FALSE":       "B&;F;F;",
		"A1":                "O1.1,2.1,0;",
		"$b$3#%":            "U%;P1.3,2.2,3;",
		"a$2":               "O1.2,2.1,1;",
		"A1:$C4":            "R1.1,2.1,0:1.4,2.3,2;",
		"A:$c":              "R0.0,2.1,0:0.0,2.3,2;",
		"$A:B":              "R0.0,2.1,2:0.0,2.2,0;",
		"1:$9":              "R1.1,0.0,0:1.9,0.0,1;",
		"$2:1":              "R1.2,0.0,1:1.1,0.0,0;",
		"1+1:2":             "B+;N1e0;R1.1,0.0,0:1.2,0.0,0;",
		"tax*A":             "B*;M3:TAX;M1:A;",
		"{1,-2;\"a\",#n/a}": "A2,4;N1e0;N-2e0;S1:a;E6;",
		"{true;FALSE}":      "A2,2;T;F;",
		"{-0}":              "A1,1;N0e0;",
		"#ref!&1.50":        "B&;E3;N15e-1;",
		" 1 + .5 ":          "B+;N1e0;N5e-1;",
		"F(A:B,1:1)":        "C1:F,2;R0.0,2.1,0:0.0,2.2,0;R1.1,0.0,0:1.1,0.0,0;",
		"A0(1)":             "C2:A0,1;N1e0;",
	} {
		n, at, e := Formula(s, rows, cols)
		code, _ := tree.Code(n)
		if e != api.OK || at != 0 || code != want {
			t.Errorf("%s: %s %d %v", s, code, at, e)
		}
	}
}

func TestP7_1_errors(t *testing.T) {
	deep := func(n int) string { return strings.Repeat("(", n) + "1" + strings.Repeat(")", n) }
	for _, c := range []struct {
		s  string
		at int
		e  api.Errno
	}{
		{"", 0, api.ErrForm}, {"  ", 2, api.ErrForm}, {"1+", 2, api.ErrForm}, {"+1 $", 3, api.ErrToken}, {") $", 2, api.ErrToken}, {"1 2", 2, api.ErrForm}, {"A1:B2#", 5, api.ErrForm}, {"A1#:B2", 3, api.ErrForm}, {"{1,2;3}", 6, api.ErrForm}, {"{1;2,3}", 4, api.ErrForm}, {"{1,2;3;4,5}", 6, api.ErrForm}, {"{1,2;3,4,5}", 8, api.ErrForm}, {"{}", 1, api.ErrForm}, {"{1,}", 3, api.ErrForm}, {"{1", 2, api.ErrForm}, {"{--1}", 2, api.ErrForm}, {"{-\"a\"}", 2, api.ErrForm}, {"{A1}", 1, api.ErrForm}, {"{+1}", 1, api.ErrForm}, {"{1+1}", 2, api.ErrForm}, {"{tax}", 1, api.ErrForm},
		{"1e99", 0, api.ErrRange}, {"{1,-1e40}", 4, api.ErrRange}, {"1+1e99)", 2, api.ErrRange}, {"\"" + strings.Repeat("x", 256) + "\"", 0, api.ErrLong}, {"F6", 0, api.ErrPlace}, {"A10", 0, api.ErrPlace}, {"E9+F6", 3, api.ErrPlace}, {"A1:F1", 3, api.ErrPlace}, {"F:A", 0, api.ErrPlace}, {"A:F", 2, api.ErrPlace}, {"1:10", 2, api.ErrPlace}, {"$10:1", 0, api.ErrPlace}, {"$F+1", 0, api.ErrPlace}, {"$A+1", 2, api.ErrForm}, {"$1", 2, api.ErrForm}, {"A1:B", 3, api.ErrForm}, {"A1:$B", 3, api.ErrForm}, {"A:B1", 2, api.ErrForm}, {"A:1", 2, api.ErrForm}, {"1:A", 2, api.ErrForm}, {"1:1.5", 2, api.ErrForm}, {"1.5:1", 0, api.ErrForm}, {"01:2", 0, api.ErrForm}, {"12345678:1", 0, api.ErrForm}, {"ABCD:A", 0, api.ErrForm}, {"A:B:C", 3, api.ErrForm}, {"A1:B2:C3", 5, api.ErrForm}, {"A:", 2, api.ErrForm}, {":A", 0, api.ErrForm},
		{"R", 0, api.ErrName}, {"rc+1", 0, api.ErrName}, {"A0", 0, api.ErrName}, {"R )", 0, api.ErrName}, {"_f(1)", 0, api.ErrName}, {strings.Repeat("a", 33), 0, api.ErrName}, {strings.Repeat("a", 33) + "(1)", 0, api.ErrName}, {"A1(1)", 2, api.ErrForm}, {"F(1", 3, api.ErrForm}, {"F(1;2)", 3, api.ErrForm}, {"F(", 2, api.ErrForm}, {"F(,", 3, api.ErrForm}, {"(1", 2, api.ErrForm}, {"()", 1, api.ErrForm}, {"1)", 1, api.ErrForm}, {"tax#", 3, api.ErrForm}, {"1#", 1, api.ErrForm}, {"TRUE 1", 5, api.ErrForm},
		{deep(64), 0, api.OK}, {deep(65), 64, api.ErrDeep}, {strings.Repeat("f(", 33), 66, api.ErrForm}, {strings.Repeat("f(", 70), 129, api.ErrDeep}, {"(1)+" + deep(64), 0, api.OK},
		{"F(" + strings.Repeat("1,", 31) + "1)", 0, api.OK}, {"F(" + strings.Repeat("1,", 32) + "1)", 65, api.ErrCount}, {"F(" + strings.Repeat(",", 31) + ")", 0, api.OK}, {"F(" + strings.Repeat(",", 32) + ")", 33, api.ErrCount}, {"F(" + strings.Repeat("1,", 32), 65, api.ErrCount},
		{strings.Repeat("-", 31) + "1", 0, api.OK}, {strings.Repeat("-", 32) + "1", 0, api.ErrDeep}, {strings.Repeat("-", 300) + "1", 0, api.ErrFull}, {"1" + strings.Repeat("+1", 40), 0, api.ErrDeep}, {"1" + strings.Repeat("+1", 130), 0, api.ErrFull}, {"{" + strings.Repeat("1,", 254) + "1}", 0, api.OK}, {"{" + strings.Repeat("1,", 255) + "1}", 0, api.ErrFull}, {strings.Repeat("-", 1<<20-1) + "1", 0, api.ErrFull}, {"{" + strings.Repeat("1,", 1<<18) + "1}", 0, api.ErrFull},
	} {
		n, at, e := Formula(c.s, rows, cols)
		if at != c.at || e != c.e || e != api.OK && !tree.Same(n, api.Node{}) {
			t.Errorf("%.40s: %d %v, want %d %v", c.s, at, e, c.at, c.e)
		}
	}
}

func TestP7_2(t *testing.T) {
	long := strings.Repeat("x", 256)
	for _, c := range []struct {
		s  string
		k  int
		v  api.Value
		at int
		e  api.Errno
	}{
		{"", api.Empty, api.Value{}, 0, api.OK}, {"5", api.Typed, api.Value{Kind: api.Number, Num: api.Num{Mant: 5}}, 0, api.OK}, {"'5", api.Typed, api.Value{Kind: api.String, Text: "5"}, 0, api.OK}, {"'", api.Typed, api.Value{Kind: api.String}, 0, api.OK}, {"''", api.Typed, api.Value{Kind: api.String, Text: "'"}, 0, api.OK}, {"#n/a", api.Typed, api.Value{Kind: api.Fault, Fault: 6}, 0, api.OK}, {" =1", api.Typed, api.Value{Kind: api.String, Text: " =1"}, 0, api.OK}, {"false", api.Typed, api.Value{Kind: api.Bool}, 0, api.OK},
		{"'" + long[1:], api.Typed, api.Value{Kind: api.String, Text: long[1:]}, 0, api.OK}, {"'" + long, 0, api.Value{}, 0, api.ErrLong}, {long, 0, api.Value{}, 0, api.ErrLong}, {strings.Repeat("0", 256), 0, api.Value{}, 0, api.ErrLong},
		{"=1", api.Formula, api.Value{}, 0, api.OK}, {"=", 0, api.Value{}, 1, api.ErrForm}, {"=1+$", 0, api.Value{}, 3, api.ErrToken}, {"=" + strings.Repeat("-", 40) + "1", 0, api.Value{}, 1, api.ErrDeep}, {"==1", 0, api.Value{}, 1, api.ErrForm}, {"=" + strings.Repeat(" ", 300) + "1", api.Formula, api.Value{}, 0, api.OK},
	} {
		x, at, e := Entry(c.s, rows, cols)
		if x.Kind != c.k || x.Value != c.v || at != c.at || e != c.e {
			t.Errorf("%.20s: %v %d %v", c.s, x, at, e)
		}
	}
}

func TestP7_3(t *testing.T) {
	some := line(1, 9)
	some.Delete(api.Id{Author: 1, N: 3})
	words := strings.Split("1 2 1.5 1e99 \"t\" A1 $B$2 c9 $A $3 A B R tax TRUE F( SUM( ( ) { } , ; : # #REF! + - * / ^ & = <> % <", " ")
	r := rand.New(rand.NewSource(1))
	right := 0
	for range 100000 {
		s := ""
		for range r.Intn(9) {
			s += words[r.Intn(len(words))]
		}
		n, at, e := Formula(s, some, cols)
		if e != api.OK {
			if at < 0 || at > len(s) {
				t.Fatal(s, at)
			}
			continue
		}
		right++
		if tree.Check(n) != api.OK {
			t.Fatal(s)
		}
		for a := range tree.Areas(n) {
			for _, c := range []api.Corner{a.A, a.B} {
				if _, ok := some.Place(c.Row); !ok && c.Row != (api.Id{}) {
					t.Fatal(s)
				}
				if _, ok := cols.Place(c.Col); !ok && c.Col != (api.Id{}) {
					t.Fatal(s)
				}
			}
		}
	}
	if right < 100 {
		t.Error("too few", right)
	}
	if _, at, e := Formula("1+A1", nil, nil); at != 2 || e != api.ErrPlace {
		t.Error(at, e)
	}
	if _, at, e := Formula("A:B", rows, nil); at != 0 || e != api.ErrPlace {
		t.Error(at, e)
	}
	if n, _, _ := Formula("A3", some, cols); n.Area.A.Row.N != 4 {
		t.Error(n)
	}
}
