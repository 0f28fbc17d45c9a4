// Package num is layer 1: exact decimals, see shared/doc/01-num.md.
package num

import (
	"math"
	"strconv"
	"strings"

	"counterpane/api"
)

// Beyond this exponent, up or down, every mantissa of at most 255 digits is too great, or rounds to 0.
const farExp = 1000

// Longest power that is worked out.
const mostPower = 1000

// Make tells mant times ten to the power of exp, rounded.
func Make(mant, exp int) (api.Num, bool) {
	neg, digits := digitsOf(mant)
	return round(neg, digits, exp)
}

// Right tells whether a is the one right number of its value.
func Right(a api.Num) bool {
	if a.Mant == 0 {
		return a.Exp == 0
	}
	if a.Mant%10 == 0 || a.Exp < -api.MaxPower {
		return false
	}
	digits := 0
	for m := a.Mant; m != 0; m /= 10 {
		digits++
	}
	return digits <= api.MaxDigits && a.Exp <= api.MaxPower-digits
}

// digitsOf tells the sign of m, and its decimal digits, the first ones first; 0 has none.
func digitsOf(m int) (bool, []byte) {
	digits := []byte{}
	for _, r := range strconv.Itoa(m) {
		if r != '-' && (r != '0' || len(digits) > 0) {
			digits = append(digits, byte(r-'0'))
		}
	}
	return m < 0, digits
}

// round rounds the value with these digits, and ten to the power of exp: to 15 digits, and then to 10 to the power -40.
func round(neg bool, digits []byte, exp int) (api.Num, bool) {
	digits = withoutNoughtsAhead(digits)
	if len(digits) == 0 || exp < -farExp {
		return api.Num{}, true
	}
	if exp > farExp {
		return api.Num{}, false
	}
	digits, exp = cutToEven(digits, exp, len(digits)-api.MaxDigits)
	digits, exp = cutToEven(digits, exp, -api.MaxPower-exp)
	for len(digits) > 0 && digits[len(digits)-1] == 0 {
		digits = digits[:len(digits)-1]
		exp++
	}
	if len(digits) == 0 {
		return api.Num{}, true
	}
	if len(digits)+exp > api.MaxPower {
		return api.Num{}, false
	}
	mant := 0
	for _, d := range digits {
		mant = mant*10 + int(d)
	}
	if neg {
		mant = -mant
	}
	return api.Num{Mant: mant, Exp: exp}, true
}

func withoutNoughtsAhead(digits []byte) []byte {
	for len(digits) > 0 && digits[0] == 0 {
		digits = digits[1:]
	}
	return digits
}

// cutToEven cuts the last drop digits off, to the nearest value, and of two to the one that is even.
func cutToEven(digits []byte, exp, drop int) ([]byte, int) {
	if drop <= 0 {
		return digits, exp
	}
	if drop > len(digits) {
		return nil, exp + drop
	}
	keep := len(digits) - drop
	// The room is cut, too: what is put on behind must not run over the digits that are cut off.
	kept, rest := digits[:keep:keep], digits[keep:]
	odd := keep > 0 && kept[keep-1]%2 == 1
	if half := againstHalf(rest); half > 0 || half == 0 && odd {
		kept = oneMore(kept)
	}
	return kept, exp + drop
}

// againstHalf tells how a fraction with these digits stands to a half.
func againstHalf(rest []byte) int {
	if rest[0] != 5 {
		return int(rest[0]) - 5
	}
	for _, d := range rest[1:] {
		if d != 0 {
			return 1
		}
	}
	return 0
}

// oneMore tells the digits of the next whole number, in new memory.
func oneMore(digits []byte) []byte {
	out := append([]byte{0}, digits...)
	for i := len(out) - 1; i >= 0; i-- {
		if out[i] < 9 {
			out[i]++
			break
		}
		out[i] = 0
	}
	return withoutNoughtsAhead(out)
}

// Add tells the sum.
func Add(a, b api.Num) (api.Num, bool) {
	if !Right(a) || !Right(b) {
		return api.Num{}, false
	}
	exp := min(a.Exp, b.Exp)
	negA, x := stretched(a, exp)
	negB, y := stretched(b, exp)
	size := max(len(x), len(y))
	x, y = filled(x, size), filled(y, size)
	if negA == negB {
		return round(negA, sum(x, y), exp)
	}
	if string(x) < string(y) {
		x, y, negA = y, x, negB
	}
	return round(negA, difference(x, y), exp)
}

// stretched tells the digits of a, if the last one counts ten to the power of exp.
func stretched(a api.Num, exp int) (bool, []byte) {
	neg, digits := digitsOf(a.Mant)
	return neg, append(digits, make([]byte, a.Exp-exp)...)
}

// filled puts noughts ahead, up to size digits.
func filled(digits []byte, size int) []byte {
	return append(make([]byte, size-len(digits)), digits...)
}

func sum(x, y []byte) []byte {
	out := make([]byte, len(x)+1)
	carry := byte(0)
	for i := len(x) - 1; i >= 0; i-- {
		d := x[i] + y[i] + carry
		out[i+1], carry = d%10, d/10
	}
	out[0] = carry
	return out
}

// difference tells x less y, of as many digits, where x isn't less.
func difference(x, y []byte) []byte {
	out := make([]byte, len(x))
	borrow := byte(0)
	for i := len(x) - 1; i >= 0; i-- {
		d := x[i] + 10 - y[i] - borrow
		out[i], borrow = d%10, 1-d/10
	}
	return out
}

// Sub tells the difference.
func Sub(a, b api.Num) (api.Num, bool) {
	if !Right(b) {
		return api.Num{}, false
	}
	return Add(a, Neg(b))
}

// Mul tells the product.
func Mul(a, b api.Num) (api.Num, bool) {
	if !Right(a) || !Right(b) {
		return api.Num{}, false
	}
	negA, x := digitsOf(a.Mant)
	negB, y := digitsOf(b.Mant)
	return round(negA != negB, product(x, y), a.Exp+b.Exp)
}

func product(x, y []byte) []byte {
	out := make([]byte, len(x)+len(y))
	for i := len(x) - 1; i >= 0; i-- {
		carry := 0
		for j := len(y) - 1; j >= 0; j-- {
			d := int(out[i+j+1]) + int(x[i])*int(y[j]) + carry
			out[i+j+1], carry = byte(d%10), d/10
		}
		out[i] = byte(carry)
	}
	return out
}

// Div tells the quotient.
func Div(a, b api.Num) (api.Num, bool) {
	if !Right(a) || !Right(b) || b.Mant == 0 {
		return api.Num{}, false
	}
	x, y := without(a.Mant), without(b.Mant)
	_, digits := digitsOf(x / y)
	exp, rest := a.Exp-b.Exp, x%y
	for rest != 0 && len(digits) < api.MaxDigits+2 {
		rest *= 10
		if d := byte(rest / y); d != 0 || len(digits) > 0 {
			digits = append(digits, d)
		}
		rest %= y
		exp--
	}
	if rest != 0 { // One digit more tells that the quotient isn't just what its digits are.
		digits = append(digits, 1)
		exp--
	}
	return round((a.Mant < 0) != (b.Mant < 0), digits, exp)
}

// without tells a number of at most 15 digits without its sign.
func without(mant int) int {
	return max(mant, -mant)
}

// Pow tells a to the power of n.
func Pow(a api.Num, n int) (api.Num, bool) {
	if !Right(a) || n < -mostPower || n > mostPower {
		return api.Num{}, false
	}
	one := api.Num{Mant: 1}
	if n < 0 {
		p, ok := Pow(a, -n)
		if !ok {
			return api.Num{}, false
		}
		return Div(one, p)
	}
	p, ok := one, true
	for i := 0; i < n && ok; i++ {
		p, ok = Mul(p, a)
	}
	return p, ok
}

// Neg tells minus a.
func Neg(a api.Num) api.Num {
	if !Right(a) {
		return api.Num{}
	}
	return api.Num{Mant: -a.Mant, Exp: a.Exp}
}

// Cmp tells how a stands to b.
func Cmp(a, b api.Num) int {
	if !Right(a) || !Right(b) || a == b {
		return 0
	}
	if signA, signB := sign(a), sign(b); signA != signB {
		if signA < signB {
			return -1
		}
		return 1
	}
	if a.Mant < 0 {
		return size(Neg(b), Neg(a))
	}
	return size(a, b)
}

func sign(a api.Num) int {
	switch {
	case a.Mant < 0:
		return -1
	case a.Mant > 0:
		return 1
	}
	return 0
}

// size holds two numbers above 0 against each other, that aren't the same.
func size(a, b api.Num) int {
	_, x := digitsOf(a.Mant)
	_, y := digitsOf(b.Mant)
	wholeA, wholeB := len(x)+a.Exp, len(y)+b.Exp
	// As the last digit isn't 0, digits that are the beginning of others tell less.
	if wholeA < wholeB || wholeA == wholeB && string(x) < string(y) {
		return -1
	}
	return 1
}

// Round tells the nearest multiple of 10 to the power -places, of two the one farther from 0.
func Round(a api.Num, places int) api.Num {
	if !Right(a) || places >= -a.Exp {
		return Neg(Neg(a))
	}
	if places < -api.MaxPower {
		return api.Num{}
	}
	neg, digits := digitsOf(a.Mant)
	drop := -places - a.Exp
	if drop > len(digits) {
		return api.Num{}
	}
	keep := len(digits) - drop
	kept := digits[:keep:keep]
	if digits[keep] >= 5 {
		kept = oneMore(kept)
	}
	if r, ok := round(neg, kept, -places); ok {
		return r
	}
	return a
}

// Floor tells the greatest whole number that isn't above a.
func Floor(a api.Num) api.Num {
	if !Right(a) {
		return api.Num{}
	}
	if a.Exp >= 0 {
		return a
	}
	whole := a.Mant
	for i := a.Exp; i < 0; i++ {
		whole /= 10
	}
	if a.Mant < 0 { // The last digit isn't 0: something was cut off.
		whole--
	}
	out, _ := Make(whole, 0)
	return out
}

// Int tells a as an int.
func Int(a api.Num) (int, bool) {
	if !Right(a) || a.Exp < 0 {
		return 0, false
	}
	out := a.Mant
	for range a.Exp {
		if out > math.MaxInt/10 || out < math.MinInt/10 {
			return 0, false
		}
		out *= 10
	}
	return out, true
}

// Text tells a's text.
func Text(a api.Num) string {
	if !Right(a) {
		return ""
	}
	if a.Mant == 0 {
		return "0"
	}
	neg, list := digitsOf(a.Mant)
	for i := range list {
		list[i] += '0'
	}
	s := string(list)
	switch {
	case a.Exp >= 0:
		s += strings.Repeat("0", a.Exp)
	case len(s) > -a.Exp:
		s = s[:len(s)+a.Exp] + "." + s[len(s)+a.Exp:]
	default:
		s = "0." + strings.Repeat("0", -a.Exp-len(s)) + s
	}
	if neg {
		return "-" + s
	}
	return s
}
