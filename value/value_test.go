package value

import (
	"math"
	"strings"
	"testing"

	"counterpane/api"
)

func n(mant, exp int) api.Num { return api.Num{Mant: mant, Exp: exp} }

var long = strings.Repeat("x", 256)

func TestP2_1(t *testing.T) {
	right := []api.Value{{}, Of(n(0, 0)), Of(n(-5, -40)), Text(""), Text(long[:255]), Text("\xff\n"), Truth(true), Truth(false), Bad(1), Bad(9)}
	for i, v := range right {
		if !Right(v) {
			t.Error(v)
		}
		for j, w := range right {
			if Same(v, w) != (i == j) {
				t.Error(v, w)
			}
		}
	}
	for _, v := range []api.Value{{Kind: 5}, {Kind: -1}, {Num: n(1, 0)}, {Text: "a"}, {Truth: true}, {Fault: 1}, Of(n(10, 0)), {Kind: 1, Text: "a"}, {Kind: 2, Text: long}, {Kind: 2, Fault: 2}, {Kind: 3, Num: n(1, 0)}, {Kind: 4}, {Kind: 4, Fault: 10}, {Kind: 4, Fault: -1}, {Kind: 4, Fault: 1, Truth: true}} {
		if Right(v) {
			t.Error(v)
		}
	}
	if !Same(Text(long), Bad(api.FaultValue)) {
		t.Error("too long")
	}
	for _, f := range []int{0, 10, -1, math.MaxInt, math.MinInt} {
		if Bad(f) != Bad(api.FaultCalc) {
			t.Error(f)
		}
	}
}

func TestP2_2(t *testing.T) {
	rising := []api.Value{Of(n(-1, 0)), Of(n(0, 0)), Of(n(5, 0)), Text(""), Text("a"), Text("AB"), Text("b_"), Text("b{"), Text("é"), Truth(false), Truth(true), Bad(1), Bad(2), Bad(9)}
	for i, v := range rising {
		for j, w := range rising {
			want := 0
			if i < j {
				want = -1
			} else if i > j {
				want = 1
			}
			if Compare(v, w) != want || Order(v, w) != want {
				t.Error(v, w, Compare(v, w))
			}
		}
		if Order(v, api.Value{}) != -1 || Order(api.Value{}, v) != 1 {
			t.Error(v)
		}
	}
	blank := api.Value{}
	for _, c := range []struct {
		v api.Value
		w int
	}{{blank, 0}, {Of(n(0, 0)), 0}, {Of(n(-1, 0)), 1}, {Of(n(1, -40)), -1}, {Text(""), 0}, {Text("a"), -1}, {Truth(false), 0}, {Truth(true), -1}, {Bad(1), -1}, {Bad(9), -1}} {
		if Compare(blank, c.v) != c.w || Compare(c.v, blank) != -c.w {
			t.Error(c)
		}
	}
	if Order(blank, blank) != 0 || Compare(Text("abc"), Text("ABC")) != 0 || Fold("az{`é\xe1") != "AZ{`é\xe1" {
		t.Error("fold")
	}
	for _, v := range []api.Value{{Kind: 99}, {Kind: -7, Text: long}, {Kind: 4, Fault: -5}} {
		Compare(v, blank)
		Order(blank, v)
		ToNum(v)
		ToText(v)
		ToTruth(v)
		Show(v)
	}
}

func TestP2_3(t *testing.T) {
	for _, c := range []struct {
		v     api.Value
		n     api.Num
		nf    int
		s     string
		sf    int
		b     bool
		bf    int
		shown string
	}{
		{api.Value{}, n(0, 0), 0, "", 0, false, 0, ""},
		{Of(n(5, -1)), n(5, -1), 0, "0.5", 0, true, 0, "0.5"},
		{Of(n(0, 0)), n(0, 0), 0, "0", 0, false, 0, "0"},
		{Truth(true), n(1, 0), 0, "TRUE", 0, true, 0, "TRUE"},
		{Truth(false), n(0, 0), 0, "FALSE", 0, false, 0, "FALSE"},
		{Text("1e2"), n(1, 2), 0, "1e2", 0, false, 2, "1e2"},
		{Text(""), n(0, 0), 2, "", 0, false, 2, ""},
		{Text("tRue"), n(0, 0), 2, "tRue", 0, true, 0, "tRue"},
		{Text("FALSE"), n(0, 0), 2, "FALSE", 0, false, 0, "FALSE"},
		{Bad(7), n(0, 0), 7, "", 7, false, 7, "#SPILL!"},
	} {
		if x, f := ToNum(c.v); x != c.n || f != c.nf {
			t.Error(c.v, x, f)
		}
		if x, f := ToText(c.v); x != c.s || f != c.sf {
			t.Error(c.v, x, f)
		}
		if x, f := ToTruth(c.v); x != c.b || f != c.bf {
			t.Error(c.v, x, f)
		}
		if Show(c.v) != c.shown {
			t.Error(c.v, Show(c.v))
		}
	}
}

func TestP2_4(t *testing.T) {
	texts := strings.Fields("#DIV/0! #VALUE! #REF! #NAME? #NUM! #N/A #SPILL! #CIRC! #CALC!")
	for i, s := range texts {
		if FaultText(i+1) != s || FaultOf(s) != i+1 || FaultOf(strings.ToLower(s)) != i+1 || Read(strings.ToLower(s)) != Bad(i+1) {
			t.Error(s)
		}
	}
	for _, f := range []int{0, 10, -1, math.MinInt, math.MaxInt} {
		if FaultText(f) != "" {
			t.Error(f)
		}
	}
	for _, s := range []string{"", "#", "#N/A ", "N/A", "#NULL!"} {
		if FaultOf(s) != 0 {
			t.Error(s)
		}
	}
	for s, v := range map[string]api.Value{"": {}, "-1.50": Of(n(-15, -1)), "true": Truth(true), "False": Truth(false), "1e": Text("1e"), " 1": Text(" 1"), "1e40": Text("1e40"), "+1": Text("+1"), long: Bad(2), strings.Repeat("1", 300): Bad(2)} {
		if Read(s) != v {
			t.Errorf("%q %v", s, Read(s))
		}
	}
}
