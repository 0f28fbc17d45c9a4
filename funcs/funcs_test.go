package funcs

import (
	"slices"
	"strings"
	"testing"

	"counterpane/api"
	"counterpane/farray"
	"counterpane/flogic"
	"counterpane/flook"
	"counterpane/fmath"
	"counterpane/ftext"
	"counterpane/shape"
	"counterpane/value"
)

var lazy = strings.Fields("IF IFERROR IFNA CHOOSE SWITCH LET")

func all() []string {
	return slices.Concat(fmath.Names(), ftext.Names(), flogic.Names(), flook.Names(), farray.Names(), lazy)
}

func TestP16_1(t *testing.T) {
	one := shape.One(value.Truth(true))
	for _, l := range []struct {
		names []string
		call  func(string, []api.Array) (api.Array, bool)
	}{{fmath.Names(), fmath.Call}, {ftext.Names(), ftext.Call}, {flogic.Names(), flogic.Call}, {flook.Names(), flook.Call}, {farray.Names(), farray.Call}} {
		for _, name := range l.names {
			for n := range 5 {
				args := slices.Repeat([]api.Array{one}, n)
				a, ok := Lib{}.Call(name, args)
				b, _ := l.call(name, args)
				if !ok || !shape.Same(a, b) || !Known(name) || Lazy(name) {
					t.Error(name)
				}
			}
		}
	}
	for _, name := range lazy {
		if a, ok := (Lib{}).Call(name, []api.Array{one, one}); ok || !shape.Same(a, api.Array{}) || !Known(name) || !Lazy(name) {
			t.Error(name)
		}
	}
	for _, name := range []string{"", "sum", "FOO", "if"} {
		if a, ok := (Lib{}).Call(name, nil); ok || !shape.Same(a, api.Array{}) || Known(name) || Lazy(name) {
			t.Error(name)
		}
	}
}

func TestP16_2_P16_3(t *testing.T) {
	var got []string
	for name := range All() {
		got = append(got, name)
	}
	want := all()
	slices.Sort(want)
	if !slices.Equal(got, want) || len(slices.Compact(want)) != len(got) {
		t.Error(got)
	}
	for range All() {
		break
	}
	for name, b := range map[string][2]int{"IF": {2, 3}, "IFERROR": {2, 2}, "IFNA": {2, 2}, "CHOOSE": {2, 32}, "SWITCH": {3, 32}, "LET": {3, 31}, "SUM": {1, 32}, "NA": {0, 0}, "XLOOKUP": {3, 5}, "SEQUENCE": {1, 4}, "TEXTJOIN": {3, 32}, "MID": {3, 3}} {
		if least, most, ok := Count(name); least != b[0] || most != b[1] || !ok {
			t.Error(name, least, most)
		}
	}
	for _, name := range []string{"", "sum", "FOO"} {
		if least, most, ok := Count(name); least != 0 || most != 0 || ok {
			t.Error(name)
		}
	}
	for name := range All() {
		least, most, ok := Count(name)
		if !ok || least < 0 || most < least {
			t.Error(name)
		}
		if Lazy(name) {
			continue
		}
		for _, n := range []int{least - 1, most + 1} {
			if n < 0 {
				continue
			}
			a, ok := Lib{}.Call(name, slices.Repeat([]api.Array{shape.One(value.Truth(true))}, n))
			if !ok || !shape.Same(a, shape.One(value.Bad(api.FaultValue))) {
				t.Error(name, n)
			}
		}
	}
}
