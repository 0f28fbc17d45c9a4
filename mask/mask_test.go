package mask

import (
	"strings"
	"testing"

	"counterpane/api"
	"counterpane/value"
)

func TestP31_1(t *testing.T) {
	for _, s := range []string{"", ";", ";;;", "#,##0.00", "0%;(0%)", "General", "gEnErAl%", "\"a;b\"0", "\\;0", "$-+()/: ", "0.", "#.", ".0", ".#", "#,,0,,.0#", "0;0;0;@\"x\"@", "\"\"", "0;;;\\%", "\\\\", strings.Repeat("%", 255), "0\\x", "General-", "##00.00##"} {
		f, at, e := Parse(s)
		if f.String() != s || at != 0 || e != api.OK {
			t.Errorf("%q %d %v", s, at, e)
		}
	}
	for _, c := range []struct {
		s  string
		at int
		e  api.Errno
	}{
		{strings.Repeat(" ", 256), 0, api.ErrLong}, {strings.Repeat("x", 256), 0, api.ErrLong}, {"x", 0, api.ErrForm}, {"0x", 1, api.ErrForm}, {"0#", 1, api.ErrForm}, {"0.#0", 3, api.ErrForm}, {"0.0.0", 3, api.ErrForm}, {",0", 0, api.ErrForm}, {".", 0, api.ErrForm}, {"..0", 0, api.ErrForm}, {".,0", 0, api.ErrForm}, {"0.,", 2, api.ErrForm}, {"0.0,", 3, api.ErrForm}, {"0 0", 2, api.ErrForm}, {"General0", 7, api.ErrForm}, {"0General", 1, api.ErrForm}, {"GeneralGeneral", 0, api.ErrForm}, {"Generalx", 0, api.ErrForm}, {"Genera", 0, api.ErrForm}, {"GeneralZ", 0, api.ErrForm}, {"General-General", 8, api.ErrForm}, {"@", 0, api.ErrForm}, {"0;@", 2, api.ErrForm}, {";;@", 2, api.ErrForm}, {";;;0", 3, api.ErrForm}, {";;;%", 3, api.ErrForm}, {";;;General", 3, api.ErrForm}, {";;;@;", 4, api.ErrCount}, {";;;;x", 3, api.ErrCount}, {";;;;\"", 3, api.ErrCount}, {"\"abc", 4, api.ErrEnd}, {"0\"", 2, api.ErrEnd}, {"0\\", 2, api.ErrEnd}, {"x\"", 0, api.ErrForm}, {"\"x", 2, api.ErrEnd}, {"0;0;x", 4, api.ErrForm}, {"é", 0, api.ErrForm}, {"0\n", 1, api.ErrForm}, {"'", 0, api.ErrForm}, {"1", 0, api.ErrForm}, {"(0:00)", 3, api.ErrForm},
	} {
		f, at, e := Parse(c.s)
		if at != c.at || e != c.e || f.String() != "" || f.sections != nil {
			t.Errorf("%q %d %v", c.s, at, e)
		}
	}
	var zero Format
	if zero.String() != "" || zero.Show(value.Read("-5.5")) != "-5.5" || zero.Show(value.Read("0")) != "0" || zero.Show(value.Read("x")) != "x" || zero.Show(value.Read("#N/A")) != "#N/A" {
		t.Error("zero")
	}
}

func TestP31_2(t *testing.T) {
	for _, c := range [][3]string{
		{"#,##0.00", "1234.5", "1,234.50"}, {"0%;(0%)", "-0.125", "(13%)"}, {"0%;(0%)", "0.125", "13%"}, {"#,##0", "123456789", "123,456,789"}, {"#,##0", "999", "999"}, {"#,##0", "0", "0"}, {"#", "0", ""}, {"#.##", "0.5", ".5"}, {"#.##", "0", "."}, {"0.", "5.4", "5."}, {"0000", "12", "0012"}, {"0,000", "12", "0,012"}, {"000,000,", "12", "000,012"}, {"0,", "1234", "1,234"}, {".00", "1.005", "1.01"}, {".00", "0.001", ".00"}, {"0.0#", "1.25", "1.25"}, {"0.0#", "1.2", "1.2"}, {"0.0#", "1", "1.0"}, {"0.0#", "1.255", "1.26"}, {"0.00##", "1.5", "1.50"},
		{"0", "-1.5", "-2"}, {"0", "-0.4", "0"}, {"0.0", "-0.04", "0.0"}, {"\"x1\"0", "-0.4", "x10"}, {"\"x\"", "-5", "x"}, {"$0", "-5", "-$5"}, {"General", "-0.5", "-0.5"}, {"General%", "-0.5", "-50%"}, {"\"n\" General", "12", "n 12"}, {"0;", "-5", ""}, {"0;;\"z\"", "0", "z"}, {"0;-0", "0", "0"}, {"0;\"neg\"0;\"zero\"", "-7", "neg7"}, {"", "5", ""}, {"", "-5", ""}, {";", "5", ""}, {"0%%", "0.5", "5000%%"}, {"%0", "0.5", "%50"}, {"\\%0", "0.5", "%1"}, {"\"%\"0", "0.5", "%1"}, {"0%", "1e38", "#NUM!"}, {"0%;0", "-1e39", "1" + strings.Repeat("0", 39)}, {"0%;0%", "-1e39", "#NUM!"}, {"%", "1e39", "#NUM!"}, {"0", "1e39", "1" + strings.Repeat("0", 39)}, {"0.0", "1e-40", "0.0"},
		{"0;0;0;\"t \"@@", "abc", "t abcabc"}, {"0;0;0", "abc", "abc"}, {"0;0;0;", "abc", ""}, {"0;0;0;\\@", "abc", "@"}, {"0", "", ""}, {"\"x\"", "TRUE", "TRUE"}, {"\"x\"", "#REF!", "#REF!"}, {";;;\"x\"", "TRUE", "TRUE"}, {"0;0;0;@", "5", "5"},
	} {
		f, _, e := Parse(c[0])
		if got := f.Show(value.Read(c[1])); e != api.OK || got != c[2] {
			t.Error(c, got, e)
		}
	}
	Format{}.Show(api.Value{Kind: 77})
}

func TestP31_3(t *testing.T) {
	for s, n := range map[string]int{"": 0, "abc": 3, "é": 1, "\xff\xfe": 2, "日本語x": 4, "e\u0301": 2} {
		if Width(s) != n {
			t.Error(s, Width(s))
		}
	}
}
