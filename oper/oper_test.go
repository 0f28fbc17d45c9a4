package oper

import (
	"strings"
	"testing"

	"counterpane/api"
	"counterpane/shape"
	"counterpane/value"
)

// v reads a value as it is typed; ' ahead tells a text.
func v(s string) api.Value {
	if s != "" && s[0] == '\'' {
		return value.Text(s[1:])
	}
	return value.Read(s)
}

func TestP10_1(t *testing.T) {
	for _, c := range [][4]string{
		{"'2", "+", "TRUE", "3"}, {"1", "/", "0", "#DIV/0!"}, {"a", "+", "1", "#VALUE!"}, {"a", "&", "1", "a1"}, {"2", "^", "0.5", "#NUM!"}, {"", "+", "", "0"}, {"", "/", "", "#DIV/0!"}, {"#N/A", "/", "0", "#N/A"}, {"1", "/", "#REF!", "#REF!"}, {"a", "*", "#N/A", "#VALUE!"}, {"#N/A", "*", "a", "#N/A"}, {"1e39", "*", "10", "#NUM!"}, {"9e39", "+", "9e39", "#NUM!"}, {"-9e39", "-", "9e39", "#NUM!"}, {"1", "-", "0.1", "0.9"}, {"6", "/", "4", "1.5"}, {"1e39", "/", "0.1", "#NUM!"},
		{"2", "^", "10", "1024"}, {"0", "^", "-1", "#DIV/0!"}, {"0", "^", "0", "1"}, {"0", "^", "-1e30", "#DIV/0!"}, {"0", "^", "-0.5", "#NUM!"}, {"2", "^", "1e30", "#NUM!"}, {"2", "^", "1001", "#NUM!"}, {"1", "^", "-1000", "1"}, {"10", "^", "40", "#NUM!"}, {"a", "^", "0.5", "#VALUE!"}, {"2", "^", "#N/A", "#N/A"}, {"TRUE", "^", "", "1"},
		{"", "&", "TRUE", "'TRUE"}, {"1.50", "&", "'x", "1.5x"}, {"#N/A", "&", "#REF!", "#N/A"}, {"x", "&", "#REF!", "#REF!"}, {strings.Repeat("x", 200), "&", strings.Repeat("y", 55), strings.Repeat("x", 200) + strings.Repeat("y", 55)}, {strings.Repeat("x", 200), "&", strings.Repeat("y", 56), "#VALUE!"},
		{"a", "=", "A", "TRUE"}, {"a", "<>", "A", "FALSE"}, {"1", "<", "a", "TRUE"}, {"", "=", "0", "TRUE"}, {"", "=", "'", "TRUE"}, {"", ">=", "FALSE", "TRUE"}, {"5", ">", "'5", "FALSE"}, {"#N/A", "=", "#N/A", "#N/A"}, {"a", "<", "#REF!", "#REF!"}, {"#NUM!", "<>", "#REF!", "#NUM!"}, {"2", "<=", "2", "TRUE"}, {"2", "<=", "1", "FALSE"}, {"2", ">", "1", "TRUE"}, {"TRUE", ">=", "zz", "TRUE"}, {"2", "<", "2", "FALSE"}, {"1", ">=", "2", "FALSE"},
	} {
		a, ok := Binary(c[1], shape.One(v(c[0])), shape.One(v(c[2])))
		if !ok || !shape.Same(a, shape.One(v(c[3]))) {
			t.Errorf("%.60q: %v", c, a)
		}
	}
	for _, c := range [][3]string{{"+", "a", "a"}, {"+", "", ""}, {"+", "#N/A", "#N/A"}, {"-", "'5", "-5"}, {"-", "", "0"}, {"-", "a", "#VALUE!"}, {"-", "#REF!", "#REF!"}, {"-", "TRUE", "-1"}, {"%", "5", "0.05"}, {"%", "TRUE", "0.01"}, {"%", "x", "#VALUE!"}, {"%", "#N/A", "#N/A"}, {"%", "1e-40", "0"}} {
		a, ok := Unary(c[0], shape.One(v(c[1])))
		if !ok || !shape.Same(a, shape.One(v(c[2]))) {
			t.Error(c, a)
		}
	}
	one, two := shape.One(v("1")), api.Array{Rows: 1, Cols: 2, L: []api.Value{v("1"), v("a")}}
	if a, _ := Binary("+", two, one); !shape.Same(a, api.Array{Rows: 1, Cols: 2, L: []api.Value{v("2"), v("#VALUE!")}}) {
		t.Error(a)
	}
	if a, _ := Unary("-", two); !shape.Same(a, api.Array{Rows: 1, Cols: 2, L: []api.Value{v("-1"), v("#VALUE!")}}) {
		t.Error(a)
	}
	if a, ok := Binary("+", two, api.Array{}); !ok || !shape.Same(a, shape.One(v("#CALC!"))) {
		t.Error(a)
	}
	if a, ok := Unary("+", api.Array{}); !ok || !shape.Same(a, shape.One(v("#CALC!"))) {
		t.Error(a)
	}
	for _, s := range []string{"", "!", "==", "=>", "*", "^"} {
		if a, ok := Unary(s, one); ok || !shape.Same(a, api.Array{}) {
			t.Error(s)
		}
	}
	for _, s := range []string{"", "!", "==", "=>", "%", " +"} {
		if a, ok := Binary(s, one, one); ok || !shape.Same(a, api.Array{}) {
			t.Error(s)
		}
	}
}

func TestP10_2(t *testing.T) {
	for i, l := range []string{"= <> < <= > >=", "&", "+ -", "* /", "^"} {
		for _, s := range strings.Fields(l) {
			if n, ok := Level(s); n != i+1 || !ok {
				t.Error(s, n)
			}
		}
	}
	for _, s := range []string{"", "%", "==", "<>=", " "} {
		if n, ok := Level(s); n != 0 || ok {
			t.Error(s, n)
		}
	}
}
