package lex

import "strings"

// kind tells whether a byte is of some kind.
type kind func(c byte) bool

func oneOf(set string) kind {
	return func(c byte) bool { return strings.IndexByte(set, c) >= 0 }
}

func between(from, to byte) kind {
	return func(c byte) bool { return c >= from && c <= to }
}

func either(l ...kind) kind {
	return func(c byte) bool {
		for _, of := range l {
			if of(c) {
				return true
			}
		}
		return false
	}
}

// begins tells whether s begins with a byte of that kind.
func (of kind) begins(s string) bool {
	return s != "" && of(s[0])
}

// run tells how many bytes of that kind s begins with.
func run(s string, of kind) int {
	n := 0
	for n < len(s) && of(s[n]) {
		n++
	}
	return n
}
