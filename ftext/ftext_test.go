package ftext

import (
	"slices"
	"strings"
	"testing"

	"counterpane/api"
	"counterpane/shape"
	"counterpane/value"
)

// arr reads rows with | between, of values with ~ between; none is Blank, ' ahead tells a text.
func arr(s string) api.Array {
	a := api.Array{}
	for _, row := range strings.Split(s, "|") {
		a.Rows++
		words := strings.Split(row, "~")
		a.Cols = len(words)
		for _, w := range words {
			if strings.HasPrefix(w, "'") {
				a.L = append(a.L, value.Text(w[1:]))
			} else {
				a.L = append(a.L, value.Read(w))
			}
		}
	}
	return a
}

func TestP12_1(t *testing.T) {
	long := strings.Repeat("x", 255)
	for _, c := range []string{
		"LEN(abc) = 3", "LEN() = 0", "LEN(1.50) = 3", "LEN(é) = 2", "LEN(#N/A~a) = #N/A~1",
		"LEFT(ab;1~2) = a~ab", "LEFT(abc) = a", "LEFT(abc;0) = '", "LEFT(abc;99) = abc", "LEFT(abc;-1) = #VALUE!", "LEFT(abc;1e30) = #VALUE!", "LEFT(abc;2.9) = ab", "LEFT(abc;) = '", "LEFT(#N/A;x) = #N/A", "LEFT(a;x) = #VALUE!", "LEFT(a;#REF!) = #REF!", "LEFT(TRUE;2) = TR", "LEFT(a|b|c;1|1) = a|b|#N/A", "LEFT(123) = '1",
		"RIGHT(abc) = c", "RIGHT(abc;2) = bc", "RIGHT(abc;0) = '", "RIGHT(abc;9) = abc", "RIGHT(abc;-0.5) = #VALUE!",
		"MID(abcd;2;2) = bc", "MID(abcd;4;9) = d", "MID(abcd;5;1) = '", "MID(abcd;900;1) = '", "MID(abcd;0;1) = #VALUE!", "MID(abcd;1;-1) = #VALUE!", "MID(abcd;1;0) = '", "MID(abcd;9e17;9e17) = '",
		"UPPER(aZé1) = AZé1", "LOWER(AzÉ1) = azÉ1", "UPPER(#N/A) = #N/A", "LOWER(TRUE) = 'true",
		"TRIM('  a   b c  ) = a b c", "TRIM('   ) = '", "TRIM(a\tb ) = a\tb",
		"FIND(b;abcb) = 2", "FIND(b;abcb;3) = 4", "FIND(z;abc) = #VALUE!", "FIND(';abc) = 1", "FIND(';abc;4) = 4", "FIND(';abc;5) = #VALUE!", "FIND(a;abc;0) = #VALUE!", "FIND(B;abc) = #VALUE!", "FIND(c;abc;4) = #VALUE!", "FIND(';') = 1",
		"SUBSTITUTE(aXbXc;X;-) = a-b-c", "SUBSTITUTE(aXbXc;X;-;2) = aXb-c", "SUBSTITUTE(aXbXc;X;-;3) = aXbXc", "SUBSTITUTE(aaa;aa;b) = ba", "SUBSTITUTE(aaaa;aa;b;2) = aab", "SUBSTITUTE(abc;';x) = abc", "SUBSTITUTE(abc;';x;0) = #VALUE!", "SUBSTITUTE(abc;b;x;0) = #VALUE!", "SUBSTITUTE(abc;b;') = ac", "SUBSTITUTE(" + long + ";x;yy) = #VALUE!", "SUBSTITUTE(aXb;x;-) = aXb",
		"REPT(ab;3) = ababab", "REPT(ab;0) = '", "REPT(';9e17) = '", "REPT(a;9e17) = #VALUE!", "REPT(a;255) = " + long[:0] + strings.Repeat("a", 255), "REPT(a;256) = #VALUE!", "REPT(ab;128) = #VALUE!", "REPT(a;-1) = #VALUE!",
		"EXACT(a;a) = TRUE", "EXACT(a;A) = FALSE", "EXACT(1;'1) = TRUE", "EXACT(;') = TRUE",
		"VALUE('1.50) = 1.5", "VALUE(x) = #VALUE!", "VALUE() = 0", "VALUE(TRUE) = 1", "VALUE(#N/A) = #N/A",
		"CONCAT(a~b|c~;1;TRUE) = abc1TRUE", "CONCAT() = '", "CONCAT(a~#N/A;#REF!) = #N/A", "CONCAT(" + long + ";x) = #VALUE!", "CONCAT(" + long + ";#NUM!) = #NUM!",
		"TEXTJOIN(-;TRUE;a~|b~') = a-b", "TEXTJOIN(-;FALSE;a~|b~') = a--b-", "TEXTJOIN(-~x;1;a;b) = a-b", "TEXTJOIN(#N/A;x;#REF!) = #N/A", "TEXTJOIN(-;x;#REF!) = #VALUE!", "TEXTJOIN(-;1;#REF!) = #REF!", "TEXTJOIN(;;a;b) = ab", "TEXTJOIN(-;TRUE;;') = '",
		"TEXTSPLIT('a,b;',) = a~b", "TEXTSPLIT('a--b-c;--) = a~b-c", "TEXTSPLIT(';x) = '", "TEXTSPLIT(xx;x) = '~'~'", "TEXTSPLIT(aaa;aa) = '~a", "TEXTSPLIT(a;') = #VALUE!", "TEXTSPLIT(#N/A;#REF!) = #N/A", "TEXTSPLIT(a;#REF!) = #REF!", "TEXTSPLIT(12;2) = '1~'", "TEXTSPLIT(a.b~c.d;.) = a~b",
	} {
		call, want, _ := strings.Cut(c, " = ")
		name, list, _ := strings.Cut(strings.TrimSuffix(call, ")"), "(")
		var args []api.Array
		for _, s := range strings.Split(list, ";") {
			args = append(args, arr(s))
		}
		got, ok := Call(name, args)
		if !ok || !shape.Same(got, arr(want)) {
			t.Errorf("%.60s %v", c, got)
		}
	}
	tall := api.Array{Rows: 65, Cols: 1, L: slices.Repeat([]api.Value{value.Text("a")}, 65)}
	wide := api.Array{Rows: 1, Cols: 64, L: slices.Repeat([]api.Value{value.Text("a")}, 64)}
	if a, _ := Call("EXACT", []api.Array{tall, wide}); !shape.Same(a, arr("#NUM!")) {
		t.Error(a)
	}
	two := api.Array{Rows: 2, Cols: 1, L: []api.Value{value.Text("a"), value.Text("b")}}
	if a, _ := Call("SUBSTITUTE", []api.Array{two, arr("a~b"), arr("z")}); !shape.Same(a, arr("z~a|b~z")) {
		t.Error(a)
	}
	if a, _ := Call("EXACT", []api.Array{arr("#REF!"), arr("a~b|c~d"), arr("a")}[:2]); !shape.Same(a, arr("#REF!~#REF!|#REF!~#REF!")) {
		t.Error(a)
	}
	if a, _ := Call("EXACT", []api.Array{arr("#REF!~1"), arr("a~b~c")}); !shape.Same(a, arr("#REF!~FALSE~#N/A")) {
		t.Error(a)
	}
}

func TestP12_1_counts(t *testing.T) {
	want := strings.Fields("CONCAT EXACT FIND LEFT LEN LOWER MID REPT RIGHT SUBSTITUTE TEXTJOIN TEXTSPLIT TRIM UPPER VALUE")
	if !slices.Equal(Names(), want) {
		t.Error(Names())
	}
	bounds := [][2]int{{1, 32}, {2, 2}, {2, 3}, {1, 2}, {1, 1}, {1, 1}, {3, 3}, {2, 2}, {1, 2}, {3, 4}, {3, 32}, {2, 2}, {1, 1}, {1, 1}, {1, 1}}
	for i, name := range want {
		b := bounds[i]
		if least, most, ok := Count(name); least != b[0] || most != b[1] || !ok {
			t.Error(name, least, most)
		}
		for n := range 40 {
			a, ok := Call(name, slices.Repeat([]api.Array{arr("1")}, n))
			if few := n < b[0] || n > b[1]; !ok || few != shape.Same(a, arr("#VALUE!")) {
				t.Error(name, n, a)
			}
		}
		bad := append(slices.Repeat([]api.Array{arr("1")}, b[1]-1), api.Array{Rows: 1, Cols: 1, L: []api.Value{{Kind: 9}}})
		if a, ok := Call(name, bad); !ok || !shape.Same(a, arr("#VALUE!")) {
			t.Error(name, a)
		}
	}
	for _, name := range []string{"", "len", "SUM"} {
		if a, ok := Call(name, nil); ok || !shape.Same(a, api.Array{}) {
			t.Error(name)
		}
	}
}
