package flogic

import (
	"slices"
	"strings"
	"testing"

	"counterpane/api"
	"counterpane/shape"
	"counterpane/value"
)

// arr reads rows with | between, of values with blanks between; _ is Blank, ' ahead tells a text.
func arr(s string) api.Array {
	a := api.Array{}
	for _, row := range strings.Split(s, "|") {
		a.Rows++
		words := strings.Fields(row)
		a.Cols = len(words)
		for _, w := range words {
			switch {
			case w == "_":
				a.L = append(a.L, api.Value{})
			case w[0] == '\'':
				a.L = append(a.L, value.Text(w[1:]))
			default:
				a.L = append(a.L, value.Read(w))
			}
		}
	}
	return a
}

func TestP13_1(t *testing.T) {
	for _, c := range []string{
		"AND(TRUE _) = TRUE", "AND(_) = #VALUE!", "AND(1 2, 'true) = TRUE", "AND(1 0) = FALSE", "AND(FALSE #N/A, #REF!) = #N/A", "AND(FALSE a) = #VALUE!", "AND(', TRUE) = #VALUE!",
		"OR(0 _, FALSE) = FALSE", "OR(0 _, 5) = TRUE", "OR(TRUE a) = #VALUE!", "OR(_, _ _) = #VALUE!", "OR(TRUE, #NUM!) = #NUM!",
		"XOR(1 1 1) = TRUE", "XOR(1 1 _) = FALSE", "XOR(0) = FALSE", "XOR(_) = #VALUE!", "XOR(1, #REF! #N/A) = #REF!", "XOR(1|0, 0) = TRUE",
		"NOT(TRUE 0 _|a #N/A 'false) = FALSE TRUE TRUE|#VALUE! #N/A TRUE",
		"ISBLANK(_ 1 ' TRUE #N/A) = TRUE FALSE FALSE FALSE FALSE", "ISNUMBER(_ 1 '1 TRUE #N/A) = FALSE TRUE FALSE FALSE FALSE", "ISTEXT(_ 1 '1 TRUE #N/A) = FALSE FALSE TRUE FALSE FALSE", "ISLOGICAL(_ 1 '1 TRUE #N/A) = FALSE FALSE FALSE TRUE FALSE", "ISERROR(_ 1 '1 TRUE #N/A) = FALSE FALSE FALSE FALSE TRUE", "ISERROR(#REF!|1) = TRUE|FALSE",
	} {
		call, want, _ := strings.Cut(c, " = ")
		name, list, _ := strings.Cut(strings.TrimSuffix(call, ")"), "(")
		var args []api.Array
		for _, s := range strings.Split(list, ", ") {
			args = append(args, arr(s))
		}
		got, ok := Call(name, args)
		if !ok || !shape.Same(got, arr(want)) {
			t.Error(c, got)
		}
	}
	if a, ok := Call("NA", nil); !ok || !shape.Same(a, arr("#N/A")) {
		t.Error(a)
	}
	want := strings.Fields("AND ISBLANK ISERROR ISLOGICAL ISNUMBER ISTEXT NA NOT OR XOR")
	if !slices.Equal(Names(), want) {
		t.Error(Names())
	}
	for _, name := range want {
		b := [2]int{1, 1}
		switch name {
		case "NA":
			b = [2]int{0, 0}
		case "AND", "OR", "XOR":
			b = [2]int{1, 32}
		}
		if least, most, ok := Count(name); least != b[0] || most != b[1] || !ok {
			t.Error(name, least, most)
		}
		for n := range 40 {
			a, ok := Call(name, slices.Repeat([]api.Array{arr("1")}, n))
			if few := n < b[0] || n > b[1]; !ok || few != shape.Same(a, arr("#VALUE!")) {
				t.Error(name, n, a)
			}
			a, _ = Call(name, slices.Repeat([]api.Array{{}}, n))
			if want := n >= max(1, b[0]) && n <= b[1]; want != shape.Same(a, arr("#CALC!")) {
				t.Error(name, n, a)
			}
		}
	}
	for _, name := range []string{"", "and", "IF"} {
		if a, ok := Call(name, []api.Array{arr("1")}); ok || !shape.Same(a, api.Array{}) {
			t.Error(name)
		}
	}
}
