package cells

import (
	"math"
	"slices"
	"strings"
	"testing"

	"counterpane/api"
	"counterpane/tree"
	"counterpane/value"
)

func cell(row, col int) api.Cell {
	return api.Cell{Row: api.Id{N: row}, Col: api.Id{N: col}}
}

func typed(s string) api.Content { return api.Content{Kind: api.Typed, Value: value.Read(s)} }

func formula(l ...api.Node) api.Content {
	return api.Content{Kind: api.Formula, Tree: api.Node{Kind: api.Call, Name: "SUM", L: l}}
}

var (
	one    = api.Node{Value: value.Read("1")}
	rights = map[string]api.Content{".": {}, "VN-5e0;": typed("-5"), "VS1:a;": typed("a"), "VT;": typed("true"), "VE6;": typed("#N/A"), "VS0:;": {Kind: api.Typed, Value: value.Text("")}, "=C3:SUM,1;N1e0;": formula(one), "VN25e-1;": typed("2.5"), "VS5:;\n\\:.;": typed(";\n\\:.")}
	wrongs = []api.Content{{Kind: 3}, {Kind: -1}, {Kind: math.MinInt}, {Value: value.Read("1")}, {Tree: one}, {Kind: api.Typed}, {Kind: api.Typed, Value: api.Value{Kind: 9}}, {Kind: api.Typed, Value: value.Read("1"), Tree: one}, {Kind: api.Formula}, {Kind: api.Formula, Tree: one, Value: value.Read("1")}, {Kind: api.Formula, Tree: api.Node{Value: value.Read("-1")}}}
)

func TestP18_1(t *testing.T) {
	for s, a := range rights {
		if !Right(a) {
			t.Error(s)
		}
		for u, b := range rights {
			if Same(a, b) != (s == u) {
				t.Error(s, u)
			}
		}
	}
	for i, c := range wrongs {
		if Right(c) || !Same(c, c) {
			t.Error(i)
		}
	}
}

func TestP18_2(t *testing.T) {
	s := New()
	var none *Store
	for i, c := range []struct{ got, want api.Errno }{
		{none.Put(cell(1, 1), typed("1")), api.ErrArg}, {s.Put(cell(0, 1), typed("1")), api.ErrArg}, {s.Put(cell(1, 0), wrongs[0]), api.ErrArg}, {s.Put(cell(1, 1), wrongs[0]), api.ErrForm}, {s.Put(cell(1, 1), typed("1")), api.OK}, {s.Put(cell(1, 1), wrongs[5]), api.ErrForm}, {s.Put(cell(2, 1), api.Content{}), api.OK}, {s.Put(api.Cell{Row: api.Id{Author: 5}, Col: api.Id{N: 1}}, typed("2")), api.OK}, {s.Put(api.Cell{Row: api.Id{Author: -5, N: 1}, Col: api.Id{N: 1}}, typed("3")), api.OK}, {s.Put(cell(1, 2), formula(one)), api.OK},
	} {
		if c.got != c.want {
			t.Error(i, c)
		}
	}
	var l []string
	for at, c := range s.All() {
		if !Same(c, s.Get(at)) {
			t.Error(at)
		}
		code, _ := Code(c)
		l = append(l, code)
		for i := range c.Tree.L {
			c.Tree.L[i] = api.Node{}
		}
	}
	if !slices.Equal(l, []string{"VN2e0;", "VN3e0;", "VN1e0;", "=C3:SUM,1;N1e0;"}) || s.Len() != 4 {
		t.Error(l, s.Len())
	}
	for range s.All() {
		break
	}
	in := formula(one)
	s.Put(cell(9, 9), in)
	in.Tree.L[0] = api.Node{}
	out := s.Get(cell(9, 9))
	out.Tree.L[0] = api.Node{}
	if !Same(s.Get(cell(9, 9)), formula(one)) || !Same(s.Get(cell(1, 2)), formula(one)) {
		t.Error("not apart")
	}
	c := s.Clone()
	c.Put(cell(1, 1), api.Content{})
	if c.Len() != 4 || s.Len() != 5 || !Same(s.Get(cell(1, 1)), typed("1")) || !Same(c.Get(cell(1, 1)), api.Content{}) || !Same(s.Get(api.Cell{}), api.Content{}) {
		t.Error("clone")
	}
	var zero Store
	if zero.Len() != 0 || zero.Put(cell(1, 1), api.Content{}) != api.OK || zero.Put(cell(1, 1), typed("1")) != api.OK || zero.Len() != 1 {
		t.Error("zero")
	}
	if none.Len() != 0 || !Same(none.Get(cell(1, 1)), api.Content{}) || none.Clone() == nil || none.Clone().Len() != 0 {
		t.Error("nil")
	}
	for range none.All() {
		t.Error("nil")
	}
}

func TestP18_2_full(t *testing.T) {
	s := New()
	for i := range api.MaxCells {
		if s.Put(cell(i%100+1, i/100+1), typed("x")) != api.OK {
			t.Fatal(i)
		}
	}
	if s.Put(cell(101, 1), typed("x")) != api.ErrFull || s.Put(cell(101, 1), api.Content{}) != api.OK || s.Put(cell(1, 1), typed("y")) != api.OK || s.Put(cell(101, 1), wrongs[0]) != api.ErrForm {
		t.Error("full")
	}
	s.Put(cell(1, 1), api.Content{})
	if s.Put(cell(101, 1), typed("x")) != api.OK {
		t.Error("room")
	}
}

func TestP18_3(t *testing.T) {
	for s, c := range rights {
		if code, e := Code(c); code != s || e != api.OK {
			t.Error(s, code)
		}
		if d, e := Decode(s); e != api.OK || !Same(d, c) {
			t.Error(s, d)
		}
		for i := range len(s) {
			if d, e := Decode(s[:i]); e != api.ErrForm || !Same(d, api.Content{}) {
				t.Error(s[:i])
			}
		}
	}
	for i, c := range wrongs {
		if s, e := Code(c); s != "" || e != api.ErrForm {
			t.Error(i, s)
		}
	}
	for _, s := range []string{"", "..", ".V", "V", "VX;", "VN1e0;N1e0;", "VN10e0;", "VU-;N1e0;", "=", "=X;", "=N-1e0;", "=N1e0;;", "N1e0;", "v", "VA1,1;N1e0;", "=.", "VS256:" + strings.Repeat("x", 256) + ";"} {
		if d, e := Decode(s); e != api.ErrForm || !Same(d, api.Content{}) || !tree.Same(d.Tree, api.Node{}) {
			t.Error(s, e)
		}
	}
}
