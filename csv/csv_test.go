package csv

import (
	"math/rand"
	"slices"
	"strings"
	"testing"

	"counterpane/api"
	"counterpane/shape"
	"counterpane/value"
)

var long = strings.Repeat("x", 255)

func arr(rows, cols int, l ...any) api.Array {
	a := api.Array{Rows: rows, Cols: cols}
	for _, x := range l {
		switch v := x.(type) {
		case nil:
			a.L = append(a.L, api.Value{})
		case api.Value:
			a.L = append(a.L, v)
		case string:
			a.L = append(a.L, value.Text(v))
		}
	}
	return a
}

func TestP32_1(t *testing.T) {
	for _, c := range []struct {
		a api.Array
		s string
	}{
		{arr(1, 3, value.Read("1"), "a,b", "TRUE"), "1,\"a,b\",'TRUE\n"}, {arr(2, 2, nil, "", value.Truth(true), value.Bad(6)), ",'\nTRUE,#N/A\n"}, {arr(1, 1, nil), "\n"}, {arr(1, 4, "a\"b", "l\nf", "c\rr", "'x"), "\"a\"\"b\",\"l\nf\",\"c\rr\",''x\n"}, {arr(1, 3, "5", "#n/a", "'1,2"), "'5,'#n/a,\"''1,2\"\n"}, {arr(2, 1, value.Read("-0.5"), " a "), "-0.5\n a \n"}, {api.Array{}, ""}, {api.Array{Rows: 1, Cols: 2, L: []api.Value{{}}}, ""}, {api.Array{Rows: 1, Cols: 1, L: []api.Value{{Kind: 9}}}, ""},
	} {
		if s := Write(c.a); s != c.s {
			t.Errorf("%q, want %q", s, c.s)
		}
	}
}

func TestP32_2(t *testing.T) {
	for _, c := range []struct {
		s string
		a api.Array
	}{
		{"1,\"a,b\",'TRUE\n", arr(1, 3, value.Read("1"), "a,b", "TRUE")}, {"\n", arr(1, 1, nil)}, {",\n", arr(1, 2, nil, nil)}, {"a\nb,c\n\n", arr(3, 2, "a", nil, "b", "c", nil, nil)}, {"\"\",\"'\",'\n", arr(1, 3, nil, "", "")}, {"\"1\",\"tr\"\"x\"\n", arr(1, 2, value.Read("1"), "tr\"x")}, {"\"a\nb\r\"\nc\n", arr(2, 1, "a\nb\r", "c")}, {"''\n", arr(1, 1, "'")}, {"true,#ref!, 1\n", arr(1, 3, value.Truth(true), value.Bad(3), " 1")}, {"'" + long + "," + long + "\n", arr(1, 2, long, long)}, {strings.Repeat("\n", 4096), arr(4096, 1, make([]any, 4096)...)},
	} {
		a, line, e := Read(c.s)
		if !shape.Same(a, c.a) || line != 0 || e != api.OK {
			t.Errorf("%.40q: %d %v", c.s, line, e)
		}
	}
	for _, c := range []struct {
		s    string
		line int
		e    api.Errno
		rows int
	}{
		{"", 1, api.ErrEnd, 0}, {"a", 1, api.ErrEnd, 0}, {"a\nb", 2, api.ErrEnd, 1}, {"a\n\"b", 2, api.ErrEnd, 1}, {"a\n\"b\n\n", 2, api.ErrEnd, 1}, {"\"a\"", 1, api.ErrEnd, 0}, {"a\nb\"c\n", 2, api.ErrForm, 1}, {"\"a\"b\n", 1, api.ErrForm, 0}, {"\"a\" \n", 1, api.ErrForm, 0}, {"\"a\"\r\n", 1, api.ErrForm, 0}, {"a\r\n", 1, api.ErrForm, 0}, {"a,b\"", 1, api.ErrForm, 0}, {"a\r", 1, api.ErrForm, 0}, {"\"x\ny\"\n\"x\ny\"z", 2, api.ErrForm, 1}, {long + "x\na\"\n", 1, api.ErrLong, 1}, {long + "x,a\"\n", 1, api.ErrForm, 0}, {long + "x", 1, api.ErrEnd, 0}, {"'" + long + "x\n", 1, api.ErrLong, 1}, {"a\n" + strings.Repeat("0", 256) + "\n", 2, api.ErrLong, 2}, {strings.Repeat("\n", 4097), 4097, api.ErrFull, 4097}, {strings.Repeat(",", 4096) + "\n", 1, api.ErrFull, 1}, {strings.Repeat(",", 4096) + long + "x\n", 1, api.ErrLong, 1}, {strings.Repeat(",", 4096) + "a\"\n", 1, api.ErrForm, 0}, {"a\n" + strings.Repeat(",", 2048) + "\n", 2, api.ErrFull, 2}, {strings.Repeat(",", 2047) + "\n\n\n\"", 3, api.ErrFull, 3}, {strings.Repeat(",", 4096), 1, api.ErrEnd, 0},
	} {
		a, line, e := Read(c.s)
		if !shape.Same(a, api.Array{}) || line != c.line || e != c.e {
			t.Errorf("%.40q: %d %v", c.s, line, e)
		}
		n := 0
		for i := range Rows(c.s) {
			n++
			if i != n {
				t.Error(i)
			}
		}
		if n != c.rows {
			t.Errorf("%.40q: %d rows", c.s, n)
		}
	}
}

func TestP32_3(t *testing.T) {
	var got [][]string
	for _, words := range Rows("a,'5,\"q,\"\"\"\n\n\"x\ny\",\nbad\"\n") {
		got = append(got, words)
	}
	if !slices.EqualFunc(got, [][]string{{"a", "'5", "q,\""}, {""}, {"x\ny", ""}}, slices.Equal) {
		t.Errorf("%q", got)
	}
	for range Rows("a\nb\n") {
		break
	}
	r := rand.New(rand.NewSource(1))
	bits := []string{"'", "\"", ",", "\n", "\r", "1", "TRUE", "a", " ", "#N/A", "é", "-"}
	for range 3000 {
		rows, cols := 1+r.Intn(4), 1+r.Intn(4)
		a := api.Array{Rows: rows, Cols: cols}
		for range rows * cols {
			s := ""
			for range r.Intn(5) {
				s += bits[r.Intn(len(bits))]
			}
			v := value.Text(s)
			if r.Intn(2) == 0 {
				v = value.Read(s)
			}
			a.L = append(a.L, v)
		}
		b, line, e := Read(Write(a))
		if !shape.Same(a, b) || line != 0 || e != api.OK {
			t.Fatalf("%q", Write(a))
		}
	}
}
