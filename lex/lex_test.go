package lex

import (
	"math/rand"
	"slices"
	"strconv"
	"strings"
	"testing"

	"counterpane/api"
)

func told(l []Token) string {
	var out []string
	for _, t := range l {
		out = append(out, strings.Split("End Num Text Name Mark Sign Fault", " ")[t.Kind]+":"+t.Text+"@"+strconv.Itoa(t.At))
	}
	return strings.Join(out, " ")
}

func TestP5_1(t *testing.T) {
	for s, want := range map[string]string{
		"":                   "End:@0",
		"  ":                 "End:@2",
		"SUM($A1:b2)*1.5":    "Name:SUM@0 Sign:(@3 Mark:$A1@4 Sign::@7 Mark:b2@8 Sign:)@10 Sign:*@11 Num:1.5@12 End:@15",
		"1e3":                "Num:1e3@0 End:@3",
		"1e":                 "Num:1@0 Name:e@1 End:@2",
		"1e+":                "Num:1@0 Name:e@1 Sign:+@2 End:@3",
		"1E-5x":              "Num:1E-5@0 Name:x@4 End:@5",
		".5.5":               "Num:.5@0 Num:.5@2 End:@4",
		"1.5.5":              "Num:1.5@0 Num:.5@3 End:@5",
		".5e2":               "Num:.5e2@0 End:@4",
		`"a""b"`:             `Text:a"b@0 End:@6`,
		`""`:                 "Text:@0 End:@2",
		`""""`:               `Text:"@0 End:@4`,
		`"a" "b"`:            "Text:a@0 Text:b@4 End:@7",
		"\"é\n\"":            "Text:é\n@0 End:@5",
		"A1#REF!":            "Mark:A1@0 Fault:#REF!@2 End:@7",
		"#n/a#div/0!":        "Fault:#N/A@0 Fault:#DIV/0!@4 End:@11",
		"#NAME":              "Sign:#@0 Name:NAME@1 End:@5",
		"<><=>=<>=":          "Sign:<>@0 Sign:<=@2 Sign:>=@4 Sign:<>@6 Sign:=@8 End:@9",
		"A1":                 "Mark:A1@0 End:@2",
		"$A":                 "Mark:$A@0 End:@2",
		"$1":                 "Mark:$1@0 End:@2",
		"$ZZZ$9999999":       "Mark:$ZZZ$9999999@0 End:@12",
		"A0":                 "Name:A0@0 End:@2",
		"A":                  "Name:A@0 End:@1",
		"AAAA1":              "Name:AAAA1@0 End:@5",
		"A10000000":          "Name:A10000000@0 End:@9",
		"_a.b9":              "Name:_a.b9@0 End:@5",
		"A1.5":               "Name:A1.5@0 End:@4",
		"+-*/^&=<>%(){},;:#": "Sign:+@0 Sign:-@1 Sign:*@2 Sign:/@3 Sign:^@4 Sign:&@5 Sign:=@6 Sign:<>@7 Sign:%@9 Sign:(@10 Sign:)@11 Sign:{@12 Sign:}@13 Sign:,@14 Sign:;@15 Sign::@16 Sign:#@17 End:@18",
	} {
		l, at, e := Lex(s)
		if e != api.OK || at != 0 || told(l) != want {
			t.Errorf("%q: %s %d %v", s, told(l), at, e)
		}
	}
	for s, want := range map[string]int{"1.x": 1, "$": 0, "A1$": 0, "$$A": 0, "A$": 0, "$A0": 0, "$0": 0, "$AAAA": 0, "$12345678": 0, "a$b": 0, "$_": 0, ".": 0, "1 .": 2, `"`: 0, `1+"a""`: 2, "!": 0, "a b\tc": 3, "é": 0, "aé": 1, "\xff": 0, "1.": 1, "\n": 0, "'": 0, "A1.$": 0} {
		if l, at, e := Lex(s); e != api.ErrToken || at != want || l != nil {
			t.Errorf("%q: %v %d %v", s, l, at, e)
		}
	}
}

func TestP5_2(t *testing.T) {
	sign := func(s string) Token { return Token{Kind: SignTok, Text: s} }
	num, name, mark, text := Token{Kind: NumberTok, Text: "1"}, Token{Kind: NameTok, Text: "e"}, Token{Kind: MarkTok, Text: "$A$1"}, Token{Kind: TextTok, Text: `a"`}
	fault := Token{Kind: FaultTok, Text: "#N/A"}
	for _, c := range []struct {
		l []Token
		s string
	}{
		{nil, ""}, {[]Token{{}}, ""}, {[]Token{num, name, mark, num, {}}, "1 e $A$1 1"}, {[]Token{text, text}, `"a""" "a"""`},
		{[]Token{sign("<"), sign("="), sign("<"), sign(">"), sign("<"), sign(">="), sign("<"), sign("<")}, "< =< >< >=<<"},
		{[]Token{sign(">"), sign("="), sign(">"), sign(">"), sign("=")}, "> =>> ="}, {[]Token{sign("#"), name, sign("#"), num, sign("#"), mark}, "# e#1#$A$1"},
		{[]Token{mark, fault, fault, num, text, num}, `$A$1#N/A#N/A1"a"""1`}, {[]Token{sign("<="), sign("=")}, "<=="}, {[]Token{{Kind: 77, Text: "x"}, {Kind: -1}}, "x"},
	} {
		if s := Join(c.l); s != c.s {
			t.Errorf("%q, want %q", s, c.s)
		}
	}
}

func TestP5_3(t *testing.T) {
	r := rand.New(rand.NewSource(1))
	words := strings.Split("1 .5 1e3 2E-7 12.5 a _x. R1C1 A1 $B$2 $C $7 \"\" \"q\" \"\"\"\" #N/A #REF! #name? < > <> <= >= = + - * / ^ & % ( ) { } , ; : # NAME NUM N A e E1 e5", " ")
	for range 20000 {
		s := ""
		for range r.Intn(8) {
			s += words[r.Intn(len(words))]
			if r.Intn(3) == 0 {
				s += " "
			}
		}
		l, _, e := Lex(s)
		if e != api.OK {
			continue
		}
		m, _, e := Lex(Join(l))
		for i := range l {
			l[i].At = 0
		}
		for i := range m {
			m[i].At = 0
		}
		if e != api.OK || !slices.Equal(l, m) {
			t.Fatalf("%q: %q", s, Join(l))
		}
	}
}
