package session

import (
	"math/rand"
	"slices"
	"testing"

	"counterpane/api"
	"counterpane/funcs"
	"counterpane/script"
)

func play(t *testing.T, text string) Report {
	t.Helper()
	s, n, e := script.Parse(text)
	if e != api.OK {
		t.Fatal(n, e)
	}
	return Play(s, funcs.Lib{})
}

func TestP43_1(t *testing.T) {
	r := play(t, "sheet 2 2 2\n1 type 0 0 5\n2 type 0 0 7\n1 send 2\n2 send 1\n1 show\n2 show\n2 back\n2 send 1\n1 show\n2 forth\n2 show\n1 forth\n")
	both := []string{"|A|B", "1|7|", "2||", "A1 1.1 5"}
	want := [][]string{both, both, {"|A|B", "1|5|", "2||"}, both}
	if !slices.EqualFunc(r.Rows, want, slices.Equal[[]string]) || !r.Alike {
		t.Errorf("%q", r.Rows)
	}
	if !slices.Equal(r.Errors, []api.Errno{0, 0, 0, 0, 0, 0, 0, 0, 0, 0, 0, api.ErrNone}) {
		t.Error(r.Errors)
	}
	r = play(t, "sheet 2 2 1\n1 type 0 0 =SEQUENCE(2)*TAX\n1 name TAX =3\n1 row 0\n1 col 1\n1 show\n1 cutrow 0\n1 cutcol 1\n1 show\n1 row 9\n1 type 5 5 x\n1 type 0 0 =(\n1 name TAX 5\n1 back\n1 back\n1 back\n1 back\n1 show\n")
	want = [][]string{{"|A|B|C", "1|||", "2|*3||", "3|.6||"}, {"|A|B", "1|*3|", "2|.6|"}, {"|A|B", "1|*3|", "2|.6|"}}
	if !slices.EqualFunc(r.Rows, want, slices.Equal[[]string]) {
		t.Errorf("%q", r.Rows)
	}
	if !slices.Equal(r.Errors, []api.Errno{0, 0, 0, 0, 0, 0, 0, 0, api.ErrPlace, api.ErrPlace, api.ErrForm, api.ErrKind, 0, 0, 0, 0, 0}) {
		t.Error(r.Errors)
	}
	// Without sending nobody has what the other one did, and a nil library knows no function.
	s, _, _ := script.Parse("sheet 1 1 2\n1 type 0 0 =SUM(1)\n1 show\n2 show\n")
	r = Play(s, nil)
	if !slices.EqualFunc(r.Rows, [][]string{{"|A", "1|#NAME?"}, {"|A", "1|"}}, slices.Equal[[]string]) || !r.Alike {
		t.Errorf("%q", r.Rows)
	}
	for _, s := range []script.Script{{}, {Rows: 1, Cols: 1, Writers: 1, Steps: []script.Step{{Kind: 99, Writer: 1}}}, {Rows: 51, Cols: 1, Writers: 1}} {
		if r := Play(s, nil); r.Rows != nil || !slices.Equal(r.Errors, []api.Errno{api.ErrForm}) || r.Alike {
			t.Error(r)
		}
	}
	if r := Play(script.Script{Rows: 1, Cols: 1, Writers: 1}, nil); r.Rows != nil || r.Errors != nil || !r.Alike {
		t.Error(r)
	}
}

func TestP43_2(t *testing.T) {
	r := rand.New(rand.NewSource(1))
	texts := []string{"1", "=A1", "=SEQUENCE(2)", "", "=SUM(A1:B2)", "x"}
	for range 40 {
		s := script.Script{Rows: 2, Cols: 2, Writers: 3}
		for range 40 {
			x := script.Step{Kind: 1 + r.Intn(10), Writer: 1 + r.Intn(3)}
			switch x.Kind {
			case script.Type:
				x.Row, x.Col, x.Text = r.Intn(3), r.Intn(3), texts[r.Intn(len(texts))]
			case script.Row, script.Col, script.CutRow, script.CutCol:
				x.Row = r.Intn(4)
			case script.Named:
				x.Name, x.Text = "N_", texts[r.Intn(len(texts))]
			case script.Send:
				x.To = x.Writer%3 + 1
			}
			s.Steps = append(s.Steps, x)
		}
		a, b := Play(s, funcs.Lib{}), Play(s, funcs.Lib{})
		if !a.Alike || !Same(a, b) || len(a.Errors) != 40 {
			t.Fatal("apart")
		}
	}
	a := Report{Rows: [][]string{{"a", "b"}, {"c"}}, Errors: []api.Errno{1, 0}, Alike: true}
	for i, b := range []Report{{}, {Rows: [][]string{{"a", "b"}}, Errors: a.Errors, Alike: true}, {Rows: [][]string{{"a", "b"}, {"d"}}, Errors: a.Errors, Alike: true}, {Rows: [][]string{{"a"}, {"b", "c"}}, Errors: a.Errors, Alike: true}, {Rows: a.Rows, Errors: []api.Errno{1}, Alike: true}, {Rows: a.Rows, Errors: a.Errors}} {
		if Same(a, b) || Same(b, a) {
			t.Error(i)
		}
	}
	if !Same(a, a) || !Same(Report{}, Report{Rows: [][]string{}, Errors: []api.Errno{}}) {
		t.Error("same")
	}
}
