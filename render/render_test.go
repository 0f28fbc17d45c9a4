package render

import (
	"math/rand"
	"strings"
	"testing"

	"counterpane/api"
	"counterpane/axis"
	"counterpane/lex"
	"counterpane/parse"
	"counterpane/tree"
)

func line(author, n int) *axis.Axis {
	a := axis.New()
	for i := n; i > 0; i-- {
		a.Insert(api.Id{}, api.Id{Author: author, N: i})
	}
	return a
}

func read(t *testing.T, s string, rows, cols *axis.Axis) api.Node {
	t.Helper()
	n, at, e := parse.Formula(s, rows, cols)
	if e != api.OK {
		t.Fatal(s, at, e)
	}
	return n
}

func TestP8_1(t *testing.T) {
	rows, cols := line(1, 9), line(2, 5)
	for s, want := range map[string]string{
		"-(2^2)": "", "1-(2-3)": "", "(1-2)-3": "1-2-3", "1-2-3": "", "-2^2": "", "2^-3": "", "2^(3^4)": "", "(2^3)^4": "2^3^4", "(-2)%": "", "-(2%)": "-2%", "-(1+2)": "", "--1": "", "(1+2)*3": "", "1+(2*3)": "1+2*3", "1&(2+3)": "1&2+3", "(1&2)+3": "", "(1=2)=3": "1=2=3", "1=(2=3)": "", "(1)%%": "1%%", "(1^2)%": "",
		"sum( ,1, $a$1 )": "SUM(,1,$A$1)", "{1, -2;\"a\"\"\",#n/a}": "{1,-2;\"a\"\"\",#N/A}", "true()": "TRUE()", "true": "TRUE", "A1#+b2": "A1#+B2", "c3:a1": "C3:A1", "$A:B": "$A:B", "1:$3": "", "$3:1": "", "a:a": "A:A", "f(1 , ,x)": "F(1,,X)", "1.50e3": "1500", "#DIV/0!%": "",
	} {
		if want == "" {
			want = s
		}
		if got := Formula(read(t, s, rows, cols), rows, cols); got != want {
			t.Errorf("%s: %s, want %s", s, got, want)
		}
	}
	if Formula(api.Node{}, rows, cols) != "" || Formula(api.Node{Kind: 77}, nil, nil) != "" || Relative(api.Node{}, api.Cell{Row: api.Id{Author: 1, N: 1}, Col: api.Id{Author: 2, N: 1}}, rows, cols) != "" {
		t.Error("not let by")
	}
}

func TestP8_1_gone(t *testing.T) {
	for s, want := range map[string]string{
		"A3": "#REF!", "B3#": "#REF!", "C1": "#REF!", "A2:B4": "A2:B3", "A3:B5": "A3:B4", "B5:A3": "B4:A3", "A2:B3": "A2:B2", "$A$3:A3": "#REF!", "C1:C2": "#REF!", "C1:D2": "C1:C2", "C:C": "#REF!", "B:C": "B:B", "C:B": "B:B", "3:3": "#REF!", "$3:5": "$3:4", "5:$3": "4:$3", "A:B": "A:B", "B1": "B1", "A4": "A3", "D4#": "C3#",
	} {
		rows, cols := line(1, 9), line(2, 5)
		n := read(t, s, rows, cols)
		rows.Delete(api.Id{Author: 1, N: 3})
		cols.Delete(api.Id{Author: 2, N: 3})
		if got := Formula(n, rows, cols); got != want {
			t.Errorf("%s: %s, want %s", s, got, want)
		}
		if strings.ContainsAny(s, "AB1#") {
			if got := Formula(n, nil, nil); got != "#REF!" {
				t.Errorf("%s: %s", s, got)
			}
		}
	}
}

func TestP8_1_Relative(t *testing.T) {
	rows, cols := line(1, 9), line(2, 5)
	at := api.Cell{Row: api.Id{Author: 1, N: 3}, Col: api.Id{Author: 2, N: 2}}
	for s, want := range map[string]string{
		"A2+$A$2": "R[-1]C[-1]+R2C1", "B3#": "RC#", "B3:$C4": "RC:R[1]C3", "A:$B": "C[-1]:C2", "B:C": "C:C[1]", "3:$9": "R:R9", "2:3": "R[-1]:R", "SUM(1,X)&\"a\"": "SUM(1,X)&\"a\"", "B3 = C3": "RC=RC[1]",
	} {
		if got := Relative(read(t, s, rows, cols), at, rows, cols); got != want {
			t.Errorf("%s: %s, want %s", s, got, want)
		}
	}
	n := read(t, "A2", rows, cols)
	rows.Delete(at.Row)
	if Relative(n, at, rows, cols) != "" || Relative(n, api.Cell{}, rows, cols) != "" || Relative(n, at, nil, nil) != "" {
		t.Error("from nowhere")
	}
}

func TestP8_2(t *testing.T) {
	rows, cols := line(1, 9), line(2, 5)
	for _, s := range []string{"", "5", "-0.5", "TRUE", "FALSE", "#N/A", "abc", "'TRUE", "'", "'=1", "''a", "'5", "'#n/a", " 1", "=A1+1", "={1,-2}", "1e", "a'b", "x=1"} {
		c, _, e := parse.Entry(s, rows, cols)
		if got := Entry(c, rows, cols); got != s || e != api.OK {
			t.Errorf("%q: %q %v", s, got, e)
		}
	}
	for _, c := range []api.Content{{Kind: 3}, {Kind: -1}, {Kind: api.Typed}, {Kind: api.Typed, Value: api.Value{Kind: 9}}, {Kind: api.Typed, Value: api.Value{Kind: api.String, Text: strings.Repeat("x", 256)}}} {
		if s := Entry(c, rows, cols); s != "" {
			t.Error(c, s)
		}
	}
	if Entry(api.Content{Kind: api.Formula}, rows, cols) != "=" {
		t.Error("a tree that isn't let by")
	}
}

// grow tells some right tree.
func grow(r *rand.Rand, depth int, rows, cols *axis.Axis) api.Node {
	words := []string{"1", "2.5", "\"a\"", "#REF!", "TRUE", "X", "A1", "$B2#", "A1:C$3", "B:$A", "3:$1", "{1,-2;3,4}", "F()"}
	if depth == 0 {
		n, _, _ := parse.Formula(words[r.Intn(len(words))], rows, cols)
		return n
	}
	switch r.Intn(6) {
	case 0:
		return api.Node{Kind: api.Call, Name: "F", L: []api.Node{{Kind: api.Missing}, grow(r, depth-1, rows, cols)}}
	case 1, 2:
		return api.Node{Kind: api.Unary, Name: []string{"-", "+", "%"}[r.Intn(3)], L: []api.Node{grow(r, depth-1, rows, cols)}}
	}
	signs := strings.Fields("+ - * / ^ & = <> < <= > >=")
	return api.Node{Kind: api.Binary, Name: signs[r.Intn(len(signs))], L: []api.Node{grow(r, r.Intn(depth), rows, cols), grow(r, r.Intn(depth), rows, cols)}}
}

func TestP8_3(t *testing.T) {
	rows, cols := line(1, 9), line(2, 5)
	r := rand.New(rand.NewSource(1))
	for range 5000 {
		n := grow(r, r.Intn(5), rows, cols)
		s := Formula(n, rows, cols)
		if m, _, e := parse.Formula(s, rows, cols); e != api.OK || !tree.Same(m, n) {
			t.Fatal(s, e)
		}
		l, _, _ := lex.Lex(s)
		for i, token := range l {
			if token.Text != "(" || token.Kind != lex.SignTok || i > 0 && l[i-1].Kind == lex.NameTok {
				continue
			}
			open, j := 1, i+1
			for ; open > 0; j++ {
				if l[j].Kind == lex.SignTok && l[j].Text == "(" {
					open++
				} else if l[j].Kind == lex.SignTok && l[j].Text == ")" {
					open--
				}
			}
			without := append(append(append([]lex.Token{}, l[:i]...), l[i+1:j-1]...), l[j:]...)
			if m, _, e := parse.Formula(lex.Join(without), rows, cols); e == api.OK && tree.Same(m, n) {
				t.Fatal(s, lex.Join(without))
			}
		}
	}
}
