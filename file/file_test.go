package file

import (
	"math/rand"
	"strconv"
	"strings"
	"testing"

	"counterpane/api"
	"counterpane/cells"
	"counterpane/parse"
	"counterpane/sheet"
	"counterpane/value"
)

func lines(l ...string) string { return strings.Join(l, "\n") + "\n" }

func some(t *testing.T) *sheet.Sheet {
	t.Helper()
	s := sheet.New(3, 2)
	for i, text := range []string{"'a\\b", "=SUM(A1:B3)+\"x y\"", "-5", "", "TRUE", "#N/A"} {
		if _, e := s.Type(i/2, i%2, text); e != api.OK {
			t.Fatal(e)
		}
	}
	s.Cells.Put(api.Cell{Row: api.Id{Author: -3, N: 1}, Col: api.Id{N: 1}}, api.Content{Kind: api.Typed, Value: value.Text("l\nf\\n")})
	s.Rows.Insert(api.Id{}, api.Id{Author: 2, N: -7})
	s.Rows.Delete(api.Id{N: 2})
	for name, f := range map[string]string{"TAX": "\"a\\\"", "B_": "A1"} {
		n, _, e := parse.Formula(f, s.Rows, s.Cols)
		if e != api.OK || s.Names.Set(name, n) != api.OK {
			t.Fatal(name)
		}
	}
	return s
}

func TestP33_1(t *testing.T) {
	s := sheet.New(1, 1)
	s.Type(0, 0, "a")
	if text, e := Write(s); e != api.OK || text != lines("counterpane 1", "row 0.1", "col 0.1", "cell 0.1 0.1 VS1:a;", "end") {
		t.Error(text)
	}
	want := lines("counterpane 1", "row 2.-7", "row 0.1", "row 0.2 dead", "row 0.3", "col 0.1", "col 0.2", `cell -3.1 0.1 VS5:l\nf\\n;`, `cell 0.1 0.1 VS3:a\\b;`, `cell 0.1 0.2 =B+;C3:SUM,1;R0.1,0.1,0:0.3,0.2,0;S3:x y;`, "cell 0.2 0.1 VN-5e0;", "cell 0.3 0.1 VT;", "cell 0.3 0.2 VE6;", "name B_ O2.-7,0.1,0;", `name TAX S2:a\\;`, "end")
	if text, e := Write(some(t)); e != api.OK || text != want {
		t.Error(text)
	}
	for _, s := range []*sheet.Sheet{nil, {}} {
		if text, e := Write(s); text != "" || e != api.ErrArg {
			t.Error(e)
		}
	}
}

func TestP33_2(t *testing.T) {
	many := func(n int, f func(i int) string) string {
		out := ""
		for i := range n {
			out += f(i+1) + "\n"
		}
		return out
	}
	id := func(i int) string { return "0." + strconv.Itoa(i) }
	head := Head + "\n"
	for i, c := range []struct {
		s    string
		line int
		e    api.Errno
	}{
		{"", 1, api.ErrEnd}, {"counterpane 1", 1, api.ErrEnd}, {"x", 1, api.ErrEnd}, {"x\n", 1, api.ErrHead}, {"counterpane 2\nend\n", 1, api.ErrHead}, {" counterpane 1\nend\n", 1, api.ErrHead}, {head, 2, api.ErrEnd}, {head + "end", 2, api.ErrEnd}, {head + "end\n", 0, api.OK}, {head + "end\nend\n", 3, api.ErrForm}, {head + "end\n\n", 3, api.ErrForm}, {head + "end\nx", 3, api.ErrEnd}, {head + "end \n", 2, api.ErrForm}, {head + "End\n", 2, api.ErrForm}, {head + "\nend\n", 2, api.ErrForm}, {head + head + "end\n", 2, api.ErrForm},
		{head + "row\n", 2, api.ErrForm}, {head + "row 0.0\n", 2, api.ErrForm}, {head + "row 0.01\n", 2, api.ErrForm}, {head + "row -0.1\n", 2, api.ErrForm}, {head + "row +1.1\n", 2, api.ErrForm}, {head + "row 1\n", 2, api.ErrForm}, {head + "row 1.2.3\n", 2, api.ErrForm}, {head + "row 1.99999999999999999999\n", 2, api.ErrForm}, {head + "row 1.1 \n", 2, api.ErrForm}, {head + "row  1.1\n", 2, api.ErrForm}, {head + "row 1.1 Dead\n", 2, api.ErrForm}, {head + "row 1.1 dead dead\n", 2, api.ErrForm}, {head + "row 1.1\nrow 1.1 dead\n", 3, api.ErrTwice}, {head + "row 1.1\ncol 1.1\nend\n", 0, api.OK}, {head + "col 1.1\nrow 1.1\nend\n", 3, api.ErrForm}, {head + "col 1.1 dead\ncol 1.1\n", 3, api.ErrTwice}, {head + "row 0.-9223372036854775808\nend\n", 0, api.OK},
		{head + many(1000, func(i int) string { return "row " + id(i) }) + "row 0.1001\n", 1002, api.ErrFull}, {head + many(1000, func(i int) string { return "row " + id(i) }) + "row 0.1\n", 1002, api.ErrTwice}, {head + many(1000, func(i int) string { return "col " + id(i) + " dead" }) + "col 0.1001\n", 1002, api.ErrFull},
		{head + "cell 0.1 0.1 .\n", 2, api.ErrForm}, {head + "cell 0.1 0.0 VT;\n", 2, api.ErrForm}, {head + "cell 0.1 VT;\n", 2, api.ErrForm}, {head + "cell 0.1 0.1 VT\n", 2, api.ErrForm}, {head + "cell 0.1 0.1  VT;\n", 2, api.ErrForm}, {head + "cell 0.1 0.1 VS1:\\;\n", 2, api.ErrForm}, {head + "cell 0.1 0.1 VS1:\\\\;\nend\n", 0, api.OK}, {head + "cell 0.1 0.1 VS2:\\x;\n", 2, api.ErrForm}, {head + "cell 0.1 0.1 VT;\ncell 0.1 0.1 VT;\n", 3, api.ErrForm}, {head + "cell 0.2 0.1 VT;\ncell 0.1 0.2 VT;\n", 3, api.ErrForm}, {head + "cell 1.1 0.1 VT;\ncell 0.2 0.1 VT;\nend\n", 0, api.OK}, {head + "cell 0.1 0.1 VT;\nrow 0.1\n", 3, api.ErrForm},
		{head + many(10000, func(i int) string { return "cell " + id(i) + " 0.1 VT;" }) + "cell 0.10001 0.1 VT;\n", 10002, api.ErrFull}, {head + many(10000, func(i int) string { return "cell " + id(i) + " 0.1 VT;" }) + "cell 0.9 0.1 VT;\n", 10002, api.ErrForm},
		{head + "name TAX T;\nend\n", 0, api.OK}, {head + "name tax T;\n", 2, api.ErrForm}, {head + "name A1 T;\n", 2, api.ErrForm}, {head + "name TAX M1:B;\n", 2, api.ErrForm}, {head + "name TAX N-1e0;\n", 2, api.ErrForm}, {head + "name TAX\n", 2, api.ErrForm}, {head + "name TAX T;\nname TAX T;\n", 3, api.ErrForm}, {head + "name B T;\nname A T;\n", 3, api.ErrForm}, {head + "name B T;\ncell 0.1 0.1 VT;\n", 3, api.ErrForm}, {head + "name A T; \n", 2, api.ErrForm},
		{head + many(100, func(i int) string { return "name N_" + strconv.Itoa(i+100) + " T;" }) + "name O_ T;\n", 102, api.ErrFull}, {head + many(100, func(i int) string { return "name N_" + strconv.Itoa(i+100) + " T;" }) + "name O_ M1:B;\n", 102, api.ErrForm},
	} {
		s, line, e := Read(c.s)
		if line != c.line || e != c.e || (s == nil) != (e != api.OK) {
			t.Error(i, line, e)
		}
	}
}

func TestP33_3(t *testing.T) {
	s := some(t)
	text, _ := Write(s)
	again, line, e := Read(text)
	if e != api.OK || line != 0 || !sheet.Same(s, again) {
		t.Fatal(line, e)
	}
	if other, _ := Write(again); other != text {
		t.Error(other)
	}
	again.Rows.Revive(api.Id{N: 2})
	if again.Text(2, 0) != "-5" || !cells.Same(again.Content(2, 0), s.Cells.Get(api.Cell{Row: api.Id{N: 2}, Col: api.Id{N: 1}})) {
		t.Error("what is dead")
	}
	for i := range len(text) {
		if _, _, e := Read(text[:i]); e != api.ErrEnd {
			t.Error(i, e)
		}
	}
	r := rand.New(rand.NewSource(1))
	for range 5000 {
		b := []byte(text)
		for range 1 + r.Intn(2) {
			i := r.Intn(len(b))
			switch r.Intn(3) {
			case 0:
				b[i] = text[r.Intn(len(text))]
			case 1:
				b = append(b[:i], b[i+1:]...)
			case 2:
				b = append(b[:i], append([]byte{text[r.Intn(len(text))]}, b[i:]...)...)
			}
		}
		if x, _, e := Read(string(b)); e == api.OK {
			if again, _ := Write(x); again != string(b) {
				t.Fatal(string(b))
			}
		}
	}
}
