package incr

import (
	"math/rand"
	"strings"
	"testing"

	"counterpane/addr"
	"counterpane/api"
	"counterpane/calc"
	"counterpane/funcs"
	"counterpane/parse"
	"counterpane/sheet"
	"counterpane/value"
)

func put(t *testing.T, e *Engine, l ...string) {
	t.Helper()
	for _, x := range l {
		mark, text, _ := strings.Cut(x, " ")
		m, _ := addr.Parse(mark)
		if at, err := e.Type(m.Row, m.Col, text); err != api.OK {
			t.Fatal(x, at, err)
		}
	}
}

func TestP25_2_P25_3(t *testing.T) {
	e := New(sheet.New(5, 5), funcs.Lib{})
	put(t, e, "A1 1", "A2 =A1+1", "B1 =5")
	step := func(want int) {
		t.Helper()
		before := e.Evaluated()
		r := e.Result()
		if got := e.Evaluated() - before; got != want {
			t.Error("evaluated", got, "want", want)
		}
		if !calc.Same(r, calc.All(e.Sheet(), funcs.Lib{})) {
			t.Error("not the same")
		}
		if e.Result() != r {
			t.Error("made again")
		}
	}
	if e.Evaluated() != 0 {
		t.Error("ahead of all")
	}
	step(2)
	step(0)
	put(t, e, "A1 2")
	step(1)
	put(t, e, "A1 1")
	step(1)
	put(t, e, "A1 1")
	step(0)
	if _, err := e.Type(0, 0, "=("); err != api.ErrForm {
		t.Error(err)
	}
	r := e.Result()
	if _, err := e.Type(9, 0, "1"); err != api.ErrPlace || e.Result() != r {
		t.Error("an error made it anew")
	}
	put(t, e, "C1 =TAX*A1", "C2 =SUM(A1:A3)", "C3 =ROWS(A:A)")
	step(3)
	n, _, _ := parse.Formula("3", e.Sheet().Rows, e.Sheet().Cols)
	e.Sheet().Names.Set("TAX", n)
	e.Reshaped()
	step(1)
	e.Sheet().Rows.Insert(api.Id{Author: 0, N: 2}, api.Id{Author: 1, N: 1})
	e.Reshaped()
	step(2) // the ranges alone
	put(t, e, "D1 =SEQUENCE(2)", "E1 =SUM(D1#)", "E2 =D2")
	step(5) // two passes: D1 is the same in both, E1 and E2 are not
	put(t, e, "A1 7")
	step(4)
	at, _ := e.Sheet().Cell(0, 0)
	e.Sheet().Cells.Put(at, api.Content{Kind: api.Typed, Value: value.Read("9")})
	e.Changed(at)
	step(4)
	e.Changed()
	step(0)
}

func TestP25_2_at_random(t *testing.T) {
	texts := strings.Split("|=SEQUENCE(2)|=SEQUENCE(1,2)|=A1|=B2|=C1+1|=A1#|=B1#*2|=SUM(A1:B2)|=SUM(A:A)|5|6|x|=IF(A1>1,SEQUENCE(2),3)|=A2:A3|=N_+1|=ROWS(1:2)", "|")
	r := rand.New(rand.NewSource(1))
	for range 100 {
		e := New(sheet.New(4, 4), funcs.Lib{})
		for i := range 20 {
			s := e.Sheet()
			switch r.Intn(8) {
			case 0:
				id, _ := s.Rows.At(r.Intn(4))
				s.Rows.Delete(id)
				e.Reshaped()
			case 1:
				id, _ := s.Cols.At(r.Intn(4))
				s.Cols.Insert(id, api.Id{Author: 1, N: i + 1})
				e.Reshaped()
			case 2:
				for id, live := range s.Rows.All() {
					if !live {
						s.Rows.Revive(id)
					}
				}
				e.Reshaped()
			case 3:
				n, _, _ := parse.Formula([]string{"1", "A1", "SUM(A:A)"}[r.Intn(3)], s.Rows, s.Cols)
				s.Names.Set("N_", n)
				e.Reshaped()
			default:
				e.Type(r.Intn(4), r.Intn(4), texts[r.Intn(len(texts))])
			}
			if !calc.Same(e.Result(), calc.All(s, funcs.Lib{})) {
				t.Fatal("not the same")
			}
		}
	}
}

func TestP25_1_P25_4(t *testing.T) {
	s := sheet.New(1, 1)
	if New(s, nil).Sheet() != s {
		t.Error("sheet")
	}
	var none *Engine
	for i, e := range []*Engine{none, New(nil, nil), {}} {
		e.Changed(api.Cell{})
		e.Reshaped()
		if at, err := e.Type(0, 0, "1"); at != 0 || err != api.ErrArg || e.Evaluated() != 0 || e.Sheet() != nil || e.Result() == nil || !calc.Same(e.Result(), calc.All(nil, nil)) {
			t.Error(i)
		}
	}
	e := New(s, nil)
	e.Type(0, 0, "=SUM(1)")
	if v := e.Result().Value(0, 0); v != value.Bad(api.FaultName) {
		t.Error(v)
	}
}
