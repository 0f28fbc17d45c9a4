package num

import (
	"strings"

	"counterpane/api"
)

// Parse tells the number that s tells.
func Parse(s string) (api.Num, bool) {
	if len(s) > api.MaxText {
		return api.Num{}, false
	}
	rest, neg := strings.CutPrefix(s, "-")
	tens, exp := "", 0
	if i := strings.IndexAny(rest, "eE"); i >= 0 {
		rest, tens = rest[:i], rest[i+1:]
		n, ok := power(tens)
		if !ok {
			return api.Num{}, false
		}
		exp = n
	}
	whole, behind, point := strings.Cut(rest, ".")
	if point && behind == "" || !point && whole == "" {
		return api.Num{}, false
	}
	digits, ok := readDigits(whole + behind)
	if !ok {
		return api.Num{}, false
	}
	return round(neg, digits, exp-len(behind))
}

// power reads what stands behind an e; what is beyond any size is cut to a size that decides as well.
func power(s string) (int, bool) {
	rest, neg := strings.CutPrefix(s, "-")
	if !neg {
		rest = strings.TrimPrefix(s, "+")
	}
	digits, ok := readDigits(rest)
	if !ok || len(digits) == 0 {
		return 0, false
	}
	exp := 0
	for _, d := range digits {
		exp = min(exp*10+int(d), 2*farExp)
	}
	if neg {
		return -exp, true
	}
	return exp, true
}

// readDigits tells the decimal digits of a text that has nothing else.
func readDigits(s string) ([]byte, bool) {
	digits := []byte{}
	for _, r := range s {
		if r < '0' || r > '9' {
			return nil, false
		}
		digits = append(digits, byte(r-'0'))
	}
	return digits, true
}
