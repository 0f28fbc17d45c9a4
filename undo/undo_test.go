package undo

import (
	"math"
	"math/rand"
	"testing"

	"counterpane/api"
	"counterpane/edit"
	"counterpane/sheet"
	"counterpane/value"
)

func id(n int) api.Id { return api.Id{N: n} }

func set(row int, s string) edit.Edit {
	x := edit.Edit{Kind: edit.Set, Cell: api.Cell{Row: id(row), Col: id(1)}}
	if s != "" {
		x.Content = api.Content{Kind: api.Typed, Value: value.Read(s)}
	}
	return x
}

func TestP29_1_P29_2(t *testing.T) {
	s := sheet.New(2, 1)
	h := New(s, 10)
	step := func(e, want api.Errno, text string, back, forth int) {
		t.Helper()
		if e != want || s.Text(0, 0) != text || h.Back() != back || h.Forth() != forth || h.Sheet() != s {
			t.Error(e, s.Text(0, 0), h.Back(), h.Forth())
		}
	}
	step(h.Undo(), api.ErrNone, "", 0, 0)
	step(h.Redo(), api.ErrNone, "", 0, 0)
	step(h.Do(set(1, "a")), api.OK, "a", 1, 0)
	step(h.Do(set(1, "b")), api.OK, "b", 2, 0)
	step(h.Undo(), api.OK, "a", 1, 1)
	step(h.Do(set(9, "x")), api.ErrPlace, "a", 1, 1)
	step(h.Do(edit.Edit{}), api.ErrKind, "a", 1, 1)
	step(h.Undo(), api.OK, "", 0, 2)
	step(h.Undo(), api.ErrNone, "", 0, 2)
	step(h.Redo(), api.OK, "a", 1, 1)
	step(h.Do(set(1, "c")), api.OK, "c", 2, 0)
	step(h.Redo(), api.ErrNone, "c", 2, 0)
	step(h.Undo(), api.OK, "a", 1, 1)
	// Somebody else makes it impossible; later it is possible again.
	step(h.Do(edit.Edit{Kind: edit.CutRow, At: id(2)}), api.OK, "a", 2, 0)
	s.Rows.Revive(id(2))
	step(h.Undo(), api.ErrState, "a", 2, 0)
	s.Rows.Delete(id(2))
	step(h.Undo(), api.OK, "a", 1, 1)
	s.Rows.Delete(id(2))
	step(h.Redo(), api.ErrState, "a", 1, 1)
}

func TestP29_1_most(t *testing.T) {
	for most, want := range map[int]int{-5: 1, 0: 1, 1: 1, 3: 3, math.MinInt: 1, math.MaxInt: 5} {
		s := sheet.New(1, 1)
		h := New(s, most)
		for _, x := range []string{"1", "2", "3", "4", "5"} {
			h.Do(set(1, x))
		}
		if h.Back() != want {
			t.Error(most, h.Back())
		}
		n := 0
		for h.Undo() == api.OK {
			n++
		}
		if n != want || h.Forth() != want {
			t.Error(most, n)
		}
		for range n {
			if h.Redo() != api.OK {
				t.Error(most)
			}
		}
		if s.Text(0, 0) != "5" || h.Back() != want {
			t.Error(s.Text(0, 0))
		}
	}
	var none *History
	if none.Do(set(1, "a")) != api.ErrArg || none.Undo() != api.ErrArg || none.Redo() != api.ErrArg || none.Back() != 0 || none.Forth() != 0 || none.Sheet() != nil {
		t.Error("nil")
	}
	for _, x := range []*sheet.Sheet{nil, {}} {
		h := New(x, 5)
		if h.Do(set(1, "a")) != api.ErrArg || h.Undo() != api.ErrNone || h.Sheet() != x {
			t.Error("a sheet that isn't whole")
		}
	}
}

func TestP29_3(t *testing.T) {
	r := rand.New(rand.NewSource(1))
	for range 200 {
		s := sheet.New(3, 1)
		h := New(s, 100)
		states := []*sheet.Sheet{s.Clone()}
		for i := range 10 {
			x := []edit.Edit{set(1+r.Intn(3), "x"), set(1, ""), {Kind: edit.CutRow, At: id(1 + r.Intn(3))}, {Kind: edit.BackRow, At: id(1 + r.Intn(3))}, {Kind: edit.PutRow, At: id(r.Intn(4)), New: id(10 + i)}}[r.Intn(5)]
			if h.Do(edit.Edit{Kind: edit.Many, L: []edit.Edit{x, set(2, "y")}}) == api.OK {
				states = append(states, s.Clone())
			}
		}
		at := len(states) - 1
		for range 60 {
			if r.Intn(2) == 0 && at > 0 {
				if h.Undo() != api.OK {
					t.Fatal("undo")
				}
				at--
			} else if at < len(states)-1 {
				if h.Redo() != api.OK {
					t.Fatal("redo")
				}
				at++
			}
			if !sheet.Same(s, states[at]) || h.Back() != at || h.Forth() != len(states)-1-at {
				t.Fatal(at)
			}
		}
	}
}
