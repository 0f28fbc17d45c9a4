package desk

import (
	"slices"
	"strings"
	"testing"

	"counterpane/api"
)

func TestP44_1(t *testing.T) {
	for _, c := range [][2]string{
		{"sheet 1 1 1\n1 type 0 0 =1+1\n1 show\n", "|A/1|2/alike"},
		{"sheet 1 1 1\n", "alike"},
		{"sheet 1 1 2\n1 type 5 5 x\n1 type 0 0 5\n2 type 0 0 7\n1 send 2\n2 show\n2 back\n2 back\n2 show\n1 forth\n", "! 1 18/|A/1|7/A1 1.1 5/! 7 3/|A/1|5/! 9 3/alike"},
		{"sheet 3 1 1\n1 type 0 0 =SEQUENCE(3)\n1 show\n1 type 1 0 x\n1 show\n1 type 1 0 \n1 show\n", "|A/1|*1/2|.2/3|.3/|A/1|#SPILL!/2|x/3|/|A/1|*1/2|.2/3|.3/alike"},
		{"sheet 1 2 1\n1 type 0 0 =B1\n1 type 0 1 =A1\n1 show\n", "|A|B/1|@#CIRC!|@#CIRC!/alike"},
	} {
		r := Play(c[0])
		if !slices.Equal(r.Rows, strings.Split(c[1], "/")) || r.Line != 0 || r.Error != api.OK || !Again(c[0]) {
			t.Errorf("%q %q", c[0], r.Rows)
		}
	}
	for _, c := range []struct {
		s    string
		line int
		e    api.Errno
	}{{"", 1, api.ErrEnd}, {"sheet 1 1 1\n1 show\n1 jump\n", 3, api.ErrForm}, {"sheet 1 1 1\n1 show", 2, api.ErrEnd}, {"sheet 1 1 1\n" + strings.Repeat("1 show\n", 201), 202, api.ErrFull}} {
		if r := Play(c.s); r.Rows != nil || r.Line != c.line || r.Error != c.e || Again(c.s) {
			t.Error(r)
		}
	}
}

// The document's ten examples of the whole, as far as a script tells them.
func TestExamples(t *testing.T) {
	head := "sheet 5 3 2\n"
	for i, c := range [][2]string{
		{"1 type 0 2 =SUM(A1:A3)\n1 type 0 0 4\n1 row 1\n1 show\n", "|A|B|C/1|4||4/2|||/3|||/4|||/5|||/6|||/alike"},
		{"1 type 0 0 =A2\n1 cutrow 1\n1 show\n1 back\n1 type 1 0 5\n1 show\n", "|A|B|C/1|#REF!||/2|||/3|||/4|||/|A|B|C/1|5||/2|5||/3|||/4|||/5|||/alike"},
		{"1 type 0 0 a\n2 type 0 0 b\n1 send 2\n2 send 1\n1 show\n2 back\n2 send 1\n1 show\n", "|A|B|C/1|b||/2|||/3|||/4|||/5|||/A1 1.1 a/|A|B|C/1|a||/2|||/3|||/4|||/5|||/alike"},
		{"1 row 1\n2 row 1\n1 type 1 0 x\n2 type 1 0 y\n1 send 2\n2 send 1\n1 show\n2 show\n", "|A|B|C/1|||/2|y||/3|x||/4|||/5|||/6|||/7|||/|A|B|C/1|||/2|y||/3|x||/4|||/5|||/6|||/7|||/alike"},
	} {
		if r := Play(head + c[0]); !slices.Equal(r.Rows, strings.Split(c[1], "/")) {
			t.Errorf("%d %q", i, r.Rows)
		}
	}
}
