package flook

import (
	"slices"
	"strconv"
	"strings"
	"testing"

	"counterpane/api"
	"counterpane/shape"
	"counterpane/value"
)

// arr reads rows with | between, of values with blanks between; _ is Blank, ' ahead tells a text.
func arr(s string) api.Array {
	a := api.Array{}
	for _, row := range strings.Split(s, "|") {
		a.Rows++
		words := strings.Fields(row)
		a.Cols = len(words)
		for _, w := range words {
			switch {
			case w == "_":
				a.L = append(a.L, api.Value{})
			case w[0] == '\'':
				a.L = append(a.L, value.Text(w[1:]))
			default:
				a.L = append(a.L, value.Read(w))
			}
		}
	}
	return a
}

func TestP14_1(t *testing.T) {
	for _, c := range []string{
		"INDEX(1 2|3 4, 2, 0) = 3 4", "INDEX(1 2|3 4, 0, 2) = 2|4", "INDEX(1 2|3 4, 0, 0) = 1 2|3 4", "INDEX(1 2|3 4, 2, 1) = 3", "INDEX(1 2|3 4, 2) = 3 4", "INDEX(1 2|3 4, 0) = 1 2|3 4", "INDEX(1 2 3, 2) = 2", "INDEX(1 2 3, 0) = 1 2 3", "INDEX(1|2|3, 2) = 2", "INDEX(1 2 3, 4) = #REF!", "INDEX(1|2, 3) = #REF!", "INDEX(1, -1) = #VALUE!", "INDEX(1, 9, -0.5) = #VALUE!", "INDEX(1 2, 1, 3) = #REF!", "INDEX(1, a, #N/A) = #VALUE!", "INDEX(1, #N/A, a) = #N/A", "INDEX(1, 1e30) = #NUM!", "INDEX(#N/A 2, 2) = 2", "INDEX(#N/A _, 1) = #N/A", "INDEX(1 2|3 4, 1.9, TRUE) = 1", "INDEX(5 6|_ 7, 2, 1) = _",
		"MATCH(4, 1 3 5 7) = 2", "MATCH(4, 1 3 5 7, 0) = #N/A", "MATCH(3, 1 3 3 7) = 3", "MATCH(3, 1 3 3 7, 0) = 2", "MATCH(4, 7 5 3 1, -1) = 2", "MATCH(5, 7 5 5 1, -1) = 3", "MATCH(0, 1 2) = #N/A", "MATCH(9, 1 2, -1) = #N/A", "MATCH('a, B A a, 0) = 2", "MATCH(_, 5 0 _, 0) = 2", "MATCH(1, '1 _ TRUE) = #N/A", "MATCH(1, 1 2|3 4) = #N/A", "MATCH(1, 1 2|3 4, 2) = #VALUE!", "MATCH(1, 1, -2) = #VALUE!", "MATCH(#REF!, 1, #N/A) = #REF!", "MATCH(1, 1, a) = #VALUE!", "MATCH(1, 1, 1e30) = #NUM!", "MATCH(2, 3 1 5 2 9) = 4", "MATCH(TRUE, FALSE|TRUE|TRUE, 0) = 2", "MATCH(TRUE, FALSE|TRUE|TRUE) = 3", "MATCH(1, #N/A 1) = 2", "MATCH(1, 1, 0.9) = 1", "MATCH(5 9, 5) = 1",
		"XLOOKUP(4, 5 3 1, a b c, -, -1) = b", "XLOOKUP(4, 5 3 1, a b c, -, 1) = a", "XLOOKUP(4, 5 3 1, a b c, -) = -", "XLOOKUP(4, 5 3 1, a b c) = #N/A", "XLOOKUP(4, 5 3 1, a b c, _) = #N/A", "XLOOKUP(4, 5 3 1, a b c, _ _) = _ _", "XLOOKUP(4, 5 3 1, a b c, #REF!|2) = #REF!|2", "XLOOKUP(3, 5 3 3, a b c|d e f) = b|e", "XLOOKUP(3, 5|3|3, a b|c d|e f) = c d", "XLOOKUP(3, 5|3, 1 2) = #VALUE!", "XLOOKUP(3, 5 3, 1|2) = #VALUE!", "XLOOKUP(3, 1 2|3 4, 1 2|3 4) = #VALUE!", "XLOOKUP(3, 3, a b c) = a b c", "XLOOKUP(3, 3, a|b) = #VALUE!", "XLOOKUP(3, 3, 1, 0, 2) = #VALUE!", "XLOOKUP(#N/A, 3, 1, 0, a) = #N/A", "XLOOKUP(3, 3, 1, 0, a) = #VALUE!", "XLOOKUP(3, 3, 1, 0, #NUM!) = #NUM!", "XLOOKUP(4, 3 1 3 2, a b c d, -, -1) = a", "XLOOKUP(4, 9 7 7 8, a b c d, -, 1) = b", "XLOOKUP(0, 9 7, a b, -, -1) = -", "XLOOKUP(4, '3 TRUE 9, a b c, -, -1) = -", "XLOOKUP(7, 6 7 8 7, a b c d, -, 1) = b", "XLOOKUP(7, 6 7 8 7, a b c d, -, -1) = b", "XLOOKUP('b, a B, 1 2) = 2",
		"VLOOKUP(2, 1 a|3 b|5 c, 2) = a", "VLOOKUP(3, 1 a|3 b|5 c, 2, FALSE) = b", "VLOOKUP(2, 1 a|3 b|5 c, 2, 0) = #N/A", "VLOOKUP(2, 1 a|3 b, 3) = #REF!", "VLOOKUP(2, 1 a|3 b, 0) = #VALUE!", "VLOOKUP(#N/A, 1 a, a, b) = #N/A", "VLOOKUP(1, 1 a, a, #N/A) = #VALUE!", "VLOOKUP(1, 1 a, #REF!, #N/A) = #REF!", "VLOOKUP(1, 1 a, 0, x) = #VALUE!", "VLOOKUP(1, 1 a, 9, #N/A) = #N/A", "VLOOKUP(0, 1 a|2 b, 1) = #N/A", "VLOOKUP(9, 1 a|2 b, 1) = 2", "VLOOKUP(3, 1 a|3 b|3 c, 2) = c", "VLOOKUP(3, 1 a|3 b|3 c, 2, FALSE) = b", "VLOOKUP(1, 1 #NUM!, 2) = #NUM!", "VLOOKUP(_, 0 _, 2, _) = _",
		"HLOOKUP(2, 1 3 5|a b c, 2) = a", "HLOOKUP(3, 1 3 5|a b c, 2, FALSE) = b", "HLOOKUP(3, 1 3 5|a b c, 3) = #REF!", "HLOOKUP(3, 1 3 5|a b c, -1) = #VALUE!", "HLOOKUP(0, 1 3|a b, 1) = #N/A",
	} {
		call, want, _ := strings.Cut(c, " = ")
		name, list, _ := strings.Cut(strings.TrimSuffix(call, ")"), "(")
		var args []api.Array
		for _, s := range strings.Split(list, ", ") {
			args = append(args, arr(s))
		}
		got, ok := Call(name, args)
		if !ok || !shape.Same(got, arr(want)) {
			t.Error(c, got)
		}
	}
	bounds := map[string][2]int{"HLOOKUP": {3, 4}, "INDEX": {2, 3}, "MATCH": {2, 3}, "VLOOKUP": {3, 4}, "XLOOKUP": {3, 5}}
	if !slices.Equal(Names(), strings.Fields("HLOOKUP INDEX MATCH VLOOKUP XLOOKUP")) {
		t.Error(Names())
	}
	for name, b := range bounds {
		if least, most, ok := Count(name); least != b[0] || most != b[1] || !ok {
			t.Error(name, least, most)
		}
		for n := range 9 {
			a, ok := Call(name, slices.Repeat([]api.Array{arr("1")}, n))
			if few := n < b[0] || n > b[1]; !ok || few != shape.Same(a, arr("#VALUE!")) {
				t.Error(name, n, a)
			}
		}
		if a, ok := Call(name, slices.Repeat([]api.Array{{}}, b[0])); !ok || !shape.Same(a, arr("#CALC!")) {
			t.Error(name, a)
		}
	}
	if a, ok := Call("index", nil); ok || !shape.Same(a, api.Array{}) {
		t.Error(a)
	}
	other := arr("7 8")
	a, _ := Call("XLOOKUP", []api.Array{arr("1"), arr("2"), arr("3"), other})
	a.L[0] = api.Value{}
	if !shape.Same(other, arr("7 8")) {
		t.Error("an argument's memory")
	}
}

func TestP14_2(t *testing.T) {
	list := arr("1 3 3 5 5 9")
	for k := range 12 {
		sought := arr(strconv.Itoa(k))
		upTo, just := 0, 0
		for i, v := range list.L {
			c := value.Order(v, sought.L[0])
			if c <= 0 {
				upTo = i + 1
			}
			if c == 0 && just == 0 {
				just = i + 1
			}
		}
		for way, want := range map[string]int{"1": upTo, "0": just} {
			w := arr("#N/A")
			if want > 0 {
				w = arr(strconv.Itoa(want))
			}
			if a, _ := Call("MATCH", []api.Array{sought, list, arr(way)}); !shape.Same(a, w) {
				t.Error(k, way, a)
			}
		}
	}
}
