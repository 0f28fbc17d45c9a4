package fmath

import (
	"slices"
	"strings"
	"testing"

	"counterpane/api"
	"counterpane/shape"
	"counterpane/value"
)

// arr reads rows with | between, of values with blanks between; _ is Blank, ' ahead tells a text.
func arr(s string) api.Array {
	a := api.Array{}
	for _, row := range strings.Split(s, "|") {
		a.Rows++
		words := strings.Fields(row)
		a.Cols = len(words)
		for _, w := range words {
			switch {
			case w == "_":
				a.L = append(a.L, api.Value{})
			case w[0] == '\'':
				a.L = append(a.L, value.Text(w[1:]))
			default:
				a.L = append(a.L, value.Read(w))
			}
		}
	}
	return a
}

func TestP11_1(t *testing.T) {
	for _, c := range []string{
		"SUM(1 TRUE '2) = 1", "SUM(1 2|3 4, 5) = 15", "SUM(_) = 0", "SUM(1 #N/A, #REF!) = #N/A", "SUM(9e39 9e39 -9e39) = #NUM!", "SUM(1e15 0.5 0.5) = 1e15", "SUM(1, 2, 3 #REF!) = #REF!",
		"PRODUCT(2 3, 4) = 24", "PRODUCT(TRUE a) = 0", "PRODUCT(1e39 10) = #NUM!", "PRODUCT(#DIV/0!) = #DIV/0!",
		"MIN(3 -1 2) = -1", "MAX(3 -1 7, 2) = 7", "MIN(a) = 0", "MAX(_ TRUE) = 0", "MAX(-5 -3) = -3", "MIN(1 #NUM!) = #NUM!", "MAX(#N/A) = #N/A",
		"COUNT(1 '1 TRUE _ #N/A 2) = 2", "COUNTA(1 '1 TRUE _ #N/A 2, ') = 6", "COUNT(a) = 0",
		"AVERAGE(1 2 4 TRUE) = 2.33333333333333", "AVERAGE(a _) = #DIV/0!", "AVERAGE(#N/A) = #N/A", "AVERAGE(9e39 9e39) = #NUM!",
		"MEDIAN(4 1 2 3) = 2.5", "MEDIAN(5 1 3) = 3", "MEDIAN(a) = #NUM!", "MEDIAN(1 #N/A) = #N/A", "MEDIAN(9e39 9e39) = #NUM!", "MEDIAN(-1 TRUE) = -1",
		"SUMPRODUCT(1 2 3, 4 5 6) = 32", "SUMPRODUCT(1 2, 1|2) = #VALUE!", "SUMPRODUCT(1 2, 1|#N/A) = #N/A", "SUMPRODUCT(1 TRUE a, 4 5 6) = 4", "SUMPRODUCT(1e39, 10) = #NUM!", "SUMPRODUCT(9e39 9e39) = #NUM!", "SUMPRODUCT(3) = 3", "SUMPRODUCT(1e39, 10, 0) = #NUM!",
		"LARGE(3 1 2, 1) = 3", "LARGE(3 1 2, 3) = 1", "SMALL(3 1 2 2, 2.9) = 2", "SMALL(3 1 2, 0) = #NUM!", "LARGE(3 1, 3) = #NUM!", "SMALL(1, a) = #VALUE!", "SMALL(#N/A, a) = #N/A", "LARGE(1, 1e30) = #NUM!", "LARGE(1, #REF! 1) = #REF!", "SMALL(1 2, TRUE) = 1", "SMALL(a, 1) = #NUM!",
		"COUNTIF(1 5 '5, '>1) = 1", "COUNTIF(1 5 '5, 5) = 1", "COUNTIF(1 5 '5, '5) = 1", "COUNTIF(1 5 '5 TRUE _, '<>5) = 4", "COUNTIF(a A b, 'a) = 2", "COUNTIF(1 2 3, '>=2) = 2", "COUNTIF(1 2 3, '<=2) = 2", "COUNTIF(1 2 3, '<2) = 1", "COUNTIF(1 2 3, '=2) = 1", "COUNTIF(_ 0 ', _) = 1", "COUNTIF(_ 0 ', '=) = 1", "COUNTIF(1, #N/A) = #N/A", "COUNTIF(#N/A #REF! 1, '=#n/a) = 1", "COUNTIF(#N/A #REF! 1, '>#n/a) = 0", "COUNTIF(#N/A #REF! 1, '<#n/a) = 1", "COUNTIF(TRUE FALSE, TRUE 5) = 1", "COUNTIF(a b c, '>a) = 2", "COUNTIF(=a a, '==a) = 1",
		"SUMIF(1 2 3, '>1) = 5", "SUMIF(1 2 3, '>1, 10 20 30) = 50", "SUMIF(1 2 3, '>1, 10 20) = #VALUE!", "SUMIF(1 2 3, #N/A, 1) = #N/A", "SUMIF(1 2 3, '>1, #N/A 1 2) = 3", "SUMIF(1 2 3, '>1, 1 #NUM! #N/A) = #NUM!", "SUMIF(1 2, '>0, TRUE 5) = 5", "SUMIF(1, 1, _) = 0", "SUMIF(9e39 9e39, '>0) = #NUM!",
		"ABS(-5 5|a #N/A) = 5 5|#VALUE! #N/A", "SIGN(-5 0 0.1 TRUE _) = -1 0 1 1 0", "INT(-0.5 1.9 '2.5) = -1 1 2",
		"ROUND(1.25 -1.25, 1) = 1.3 -1.3", "ROUND(125, -1.5) = 100", "ROUND(a, #N/A) = #VALUE!", "ROUND(#N/A, a) = #N/A", "ROUND(1, a) = #VALUE!", "ROUND(1, 1e30) = #NUM!", "ROUND(1 2, 1 2 3) = 1 2 #N/A", "ROUND(9e39, -40) = 9e39",
		"MOD(-7, 3) = 2", "MOD(7, -3) = -2", "MOD(5, 0) = #DIV/0!", "MOD(#N/A, 0) = #N/A", "MOD(1, a) = #VALUE!", "MOD(5.5, 2) = 1.5", "MOD(1e39, 0.1) = #NUM!", "MOD(a, #N/A) = #VALUE!", "MOD(6 7, 4) = 2 3",
		"POWER(2 0 2, 3 -1 0.5) = 8 #DIV/0! #NUM!",
	} {
		call, want, _ := strings.Cut(c, " = ")
		name, list, _ := strings.Cut(strings.TrimSuffix(call, ")"), "(")
		var args []api.Array
		for _, s := range strings.Split(list, ", ") {
			args = append(args, arr(s))
		}
		got, ok := Call(name, args)
		if !ok || !shape.Same(got, arr(want)) {
			t.Error(c, got)
		}
	}
}

func TestP11_1_counts(t *testing.T) {
	want := strings.Fields("ABS AVERAGE COUNT COUNTA COUNTIF INT LARGE MAX MEDIAN MIN MOD POWER PRODUCT ROUND SIGN SMALL SUM SUMIF SUMPRODUCT")
	if !slices.Equal(Names(), want) {
		t.Error(Names())
	}
	bounds := map[string][2]int{"ABS": {1, 1}, "INT": {1, 1}, "SIGN": {1, 1}, "COUNTIF": {2, 2}, "LARGE": {2, 2}, "SMALL": {2, 2}, "MOD": {2, 2}, "POWER": {2, 2}, "ROUND": {2, 2}, "SUMIF": {2, 3}}
	one := arr("1")
	for _, name := range want {
		b, ok := bounds[name]
		if !ok {
			b = [2]int{1, 32}
		}
		if least, most, ok := Count(name); least != b[0] || most != b[1] || !ok {
			t.Error(name, least, most)
		}
		for n := range 40 {
			a, ok := Call(name, slices.Repeat([]api.Array{one}, n))
			if few := n < b[0] || n > b[1]; !ok || few != shape.Same(a, arr("#VALUE!")) {
				t.Error(name, n, a)
			}
		}
		bad := slices.Repeat([]api.Array{one}, b[1])
		bad[len(bad)-1] = api.Array{}
		if a, ok := Call(name, bad); !ok || !shape.Same(a, arr("#CALC!")) {
			t.Error(name, a)
		}
		if a, ok := Call(name, slices.Repeat([]api.Array{{}}, 33)); !ok || !shape.Same(a, arr("#VALUE!")) {
			t.Error(name, a)
		}
	}
	for _, name := range []string{"", "sum", "IF", "NOT"} {
		if a, ok := Call(name, nil); ok || !shape.Same(a, api.Array{}) {
			t.Error(name)
		}
	}
	in := arr("3 1 2")
	Call("MEDIAN", []api.Array{in})
	if a, _ := Call("ABS", []api.Array{in}); !shape.Same(in, arr("3 1 2")) || &a.L[0] == &in.L[0] {
		t.Error("what was handed in")
	}
}
