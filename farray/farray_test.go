package farray

import (
	"slices"
	"strings"
	"testing"

	"counterpane/api"
	"counterpane/shape"
	"counterpane/value"
)

// arr reads rows with | between, of values with blanks between; _ is Blank, ' ahead tells a text.
func arr(s string) api.Array {
	a := api.Array{}
	for _, row := range strings.Split(s, "|") {
		a.Rows++
		words := strings.Fields(row)
		a.Cols = len(words)
		for _, w := range words {
			switch {
			case w == "_":
				a.L = append(a.L, api.Value{})
			case w[0] == '\'':
				a.L = append(a.L, value.Text(w[1:]))
			default:
				a.L = append(a.L, value.Read(w))
			}
		}
	}
	return a
}

func check(t *testing.T, cases ...string) {
	t.Helper()
	for _, c := range cases {
		call, want, _ := strings.Cut(c, " = ")
		name, list, _ := strings.Cut(strings.TrimSuffix(call, ")"), "(")
		var args []api.Array
		for _, s := range strings.Split(list, ", ") {
			args = append(args, arr(s))
		}
		got, ok := Call(name, args)
		if !ok || !shape.Same(got, arr(want)) || !shape.Right(got) {
			t.Error(c, got)
		}
	}
}

func many(rows, cols int) api.Array {
	return api.Array{Rows: rows, Cols: cols, L: slices.Repeat(arr("1").L, rows*cols)}
}

func TestP15_1(t *testing.T) {
	want := strings.Fields("COLUMNS DROP FILTER HSTACK MMULT ROWS SEQUENCE SORT TAKE TOCOL TOROW TRANSPOSE UNIQUE VSTACK")
	if !slices.Equal(Names(), want) {
		t.Error(Names())
	}
	bounds := [][2]int{{1, 1}, {1, 3}, {2, 3}, {1, 32}, {2, 2}, {1, 1}, {1, 4}, {1, 3}, {1, 3}, {1, 1}, {1, 1}, {1, 1}, {1, 1}, {1, 32}}
	for i, name := range want {
		b := bounds[i]
		if least, most, ok := Count(name); least != b[0] || most != b[1] || !ok {
			t.Error(name, least, most)
		}
		for n := range 40 {
			a, ok := Call(name, slices.Repeat([]api.Array{arr("1")}, n))
			if few := n < b[0] || n > b[1]; !ok || few != shape.Same(a, arr("#VALUE!")) {
				t.Error(name, n, a)
			}
			a, _ = Call(name, append(slices.Repeat([]api.Array{arr("1")}, n), api.Array{}))
			if want := n+1 >= b[0] && n+1 <= b[1]; want != (shape.Same(a, arr("#CALC!")) && n < b[1]) {
				t.Error(name, n, a)
			}
		}
	}
	for _, name := range []string{"", "sort", "SUM"} {
		if a, ok := Call(name, nil); ok || !shape.Same(a, api.Array{}) {
			t.Error(name)
		}
	}
}

func TestP15_2(t *testing.T) {
	check(t, "ROWS(1 2 3|4 5 6) = 2", "COLUMNS(1 2 3|4 5 6) = 3", "ROWS(#N/A) = 1", "TRANSPOSE(1 2|3 #N/A|5 _) = 1 3 5|2 #N/A _", "TOROW(1 2|3 #N/A) = 1 2 3 #N/A", "TOCOL(1 2|3 _) = 1|2|3|_",
		"HSTACK(1|2, 3 4) = 1 3 4|2 #N/A #N/A", "HSTACK(7) = 7", "VSTACK(1|2, 3 4, #REF!) = 1 #N/A|2 #N/A|3 4|#REF! #N/A", "VSTACK(_) = _", "HSTACK(1, 2, 3) = 1 2 3")
	for _, name := range []string{"HSTACK", "VSTACK"} {
		if a, _ := Call(name, []api.Array{many(64, 64), arr("1")}); !shape.Same(a, arr("#NUM!")) {
			t.Error(a)
		}
	}
	in := arr("1 2")
	a, _ := Call("TOROW", []api.Array{in})
	a.L[0] = api.Value{}
	if !shape.Same(in, arr("1 2")) {
		t.Error("an argument's memory")
	}
}

func TestP15_3(t *testing.T) {
	check(t, "TAKE(1 2|3 4, -1) = 3 4", "TAKE(1 2|3 4, 1) = 1 2", "TAKE(1 2|3 4) = 1 2|3 4", "TAKE(1 2|3 4, 9, -1) = 2|4", "TAKE(1 2|3 4, -9, 1) = 1|3", "TAKE(1 2|3 4, _, 1) = 1|3", "TAKE(1 2|3 4, 0) = #CALC!", "TAKE(1 2|3 4, 1, 0) = #CALC!", "TAKE(1 2, a, #N/A) = #VALUE!", "TAKE(1 2, 0, #N/A) = #N/A", "TAKE(1 2, 1e30) = #NUM!", "TAKE(1 #N/A|3 4, 1.9, -1) = #N/A", "TAKE(1 2|3 4, -0.5) = 3 4", "TAKE(1 2|3 4, -9e18, 9e18) = 1 2|3 4", "TAKE(1 2|3 4, _ 1) = #CALC!", "TAKE(1|2|3, 2) = 1|2", "TAKE(1|2|3, -2) = 2|3",
		"DROP(1 2|3 4, 1) = 3 4", "DROP(1 2|3 4, -1) = 1 2", "DROP(1 2|3 4) = 1 2|3 4", "DROP(1 2|3 4, 0, 1) = 2|4", "DROP(1 2|3 4, _, -1) = 1|3", "DROP(1 2|3 4, 2) = #CALC!", "DROP(1 2|3 4, 0, -2) = #CALC!", "DROP(1 2|3 4, -9e18) = #CALC!", "DROP(1, a) = #VALUE!", "DROP(1, 5, #N/A) = #N/A", "DROP(1 2 3|4 5 6|7 8 9, 1, -1) = 4 5|7 8")
}

func TestP15_4(t *testing.T) {
	check(t, "SEQUENCE(2, 2) = 1 2|3 4", "SEQUENCE(3) = 1|2|3", "SEQUENCE(_, 3, 5, -2) = 5 3 1", "SEQUENCE(2.9, 1, _, 0.5) = 1|1.5", "SEQUENCE(2, _, 5) = 5|6", "SEQUENCE(0) = #CALC!", "SEQUENCE(1, -1) = #CALC!", "SEQUENCE(4097) = #NUM!", "SEQUENCE(64, 65) = #NUM!", "SEQUENCE(9e18, 9e18) = #NUM!", "SEQUENCE(0, 9e18) = #CALC!", "SEQUENCE(a, #N/A) = #VALUE!", "SEQUENCE(0, #N/A) = #N/A", "SEQUENCE(0, 1, #REF!, #N/A) = #REF!", "SEQUENCE(5000, 1, 1, #N/A) = #N/A", "SEQUENCE(3, 1, 9e39, 5e39) = #NUM!", "SEQUENCE(1, 1, 9e39, 5e39) = 9e39", "SEQUENCE(2 9, 1, TRUE 7) = 1|2", "SEQUENCE(1e30) = #NUM!", "SEQUENCE(1, 1, 'x) = #VALUE!")
	if a, _ := Call("SEQUENCE", []api.Array{arr("64"), arr("64")}); a.Rows != 64 || a.Cols != 64 || !shape.Right(a) {
		t.Error(a.Rows)
	}
}

func TestP15_5(t *testing.T) {
	check(t, "SORT(3|_|1, 1, -1) = 3|1|_", "SORT(3|_|1|#N/A|a|TRUE) = 1|3|a|TRUE|#N/A|_", "SORT(3|_|1|#N/A|a|TRUE, _, -1) = #N/A|TRUE|a|3|1|_", "SORT(2 a|1 b|2 c|1 d) = 1 b|1 d|2 a|2 c", "SORT(2 a|1 b|2 c|1 d, 1, -1) = 2 a|2 c|1 b|1 d", "SORT(2 a|1 b, 2, -1) = 1 b|2 a", "SORT(1 2, 3) = #VALUE!", "SORT(1 2, 0) = #VALUE!", "SORT(1 2, 1, 0) = #VALUE!", "SORT(1 2, 1, 2) = #VALUE!", "SORT(1, x, #N/A) = #VALUE!", "SORT(1, 9, #N/A) = #N/A", "SORT(b|A|B|a) = A|a|b|B",
		"UNIQUE(1 a|2 b|1 A|_ _|0 '|_ _) = 1 a|2 b|_ _|0 '", "UNIQUE(#N/A|#N/A|#REF!) = #N/A|#REF!", "UNIQUE(1 1) = 1 1",
		"FILTER(1 2|3 4, 1|0) = 1 2", "FILTER(1 2|3 4, 0 5) = 2|4", "FILTER(1 2|3 4, 0|0) = #CALC!", "FILTER(1 2|3 4, 0|0, 7 8) = 7 8", "FILTER(1 2|3 4, 0|0, _) = #CALC!", "FILTER(1 2|3 4, 1) = #VALUE!", "FILTER(1 2|3 4, 1 1 1) = #VALUE!", "FILTER(1 2|3 4, 1 1|1 1) = #VALUE!", "FILTER(1 2|3 4, a|#N/A) = #VALUE!", "FILTER(1 2|3 4, #N/A|a) = #N/A", "FILTER(1 #N/A|3 4, TRUE|_) = 1 #N/A", "FILTER(1, TRUE) = 1", "FILTER(1, FALSE, #REF!) = #REF!", "FILTER(1|2, 1|x, 7) = #VALUE!", "FILTER(1 2 3, 1 0 1) = 1 3")
}

func TestP15_6(t *testing.T) {
	check(t, "MMULT(1 2|3 4, 5 6|7 8) = 19 22|43 50", "MMULT(1 2, 3|4) = 11", "MMULT(1|2, 3 4) = 3 4|6 8", "MMULT(1 2, 3 4) = #VALUE!", "MMULT(1 a, 3|4) = #VALUE!", "MMULT(1 a, 3|#N/A) = #N/A", "MMULT(#REF! a, 3|#N/A) = #REF!", "MMULT(_, 1) = #VALUE!", "MMULT(TRUE, 1) = #VALUE!", "MMULT(1e39, 10) = #NUM!", "MMULT(9e39 9e39, 1|1) = #NUM!", "MMULT(#N/A 1, 1) = #VALUE!")
	if a, _ := Call("MMULT", []api.Array{many(65, 1), many(1, 64)}); !shape.Same(a, arr("#NUM!")) {
		t.Error(a)
	}
	if a, _ := Call("MMULT", []api.Array{many(64, 64), many(64, 64)}); a.Rows != 64 || a.L[4095] != value.Read("64") {
		t.Error(a.Rows)
	}
}
