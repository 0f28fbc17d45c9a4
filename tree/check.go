package tree

import (
	"strings"

	"counterpane/api"
	"counterpane/value"
)

const (
	mostArguments = 32
	mostName      = 32
)

// Check tells what is wrong with a tree.
func Check(n api.Node) api.Errno {
	left := api.MaxNodes
	if !walk(&n, func(*api.Node) bool { left--; return left >= 0 }) {
		return api.ErrFull
	}
	if Depth(n) > api.MaxDepth {
		return api.ErrDeep
	}
	if !right(n) {
		return api.ErrForm
	}
	return api.OK
}

// right tells whether a tree is right that stands anywhere but in a Matrix.
func right(n api.Node) bool {
	for _, x := range n.L {
		switch {
		case x.Kind == api.Missing && n.Kind == api.Call:
			if !bare(x) || len(x.L) > 0 {
				return false
			}
		case x.Kind == api.Lit && n.Kind == api.Matrix:
			if !rightLit(x) {
				return false
			}
		case !right(x):
			return false
		}
	}
	return rightAlone(n)
}

// rightAlone tells whether a node is right, if those of L are.
func rightAlone(n api.Node) bool {
	switch n.Kind {
	case api.Lit:
		return rightLit(n) && n.Value.Num.Mant >= 0
	case api.One, api.Spill:
		a := n.Area.A
		n.Area = api.Area{B: n.Area.B}
		return hasRow(a) && hasCol(a) && bare(n) && len(n.L) == 0
	case api.Range:
		area := n.Area
		n.Area = api.Area{}
		return rightRange(area) && bare(n) && len(n.L) == 0
	case api.Call:
		name := n.Name
		n.Name = ""
		return isFunction(name) && bare(n) && len(n.L) <= mostArguments && !(len(n.L) == 1 && n.L[0].Kind == api.Missing)
	case api.Unary:
		return isSign(n, 1, " - + % ")
	case api.Binary:
		return isSign(n, 2, " + - * / ^ & = <> < <= > >= ")
	case api.Name:
		name := n.Name
		n.Name = ""
		return isName(name) && bare(n) && len(n.L) == 0
	case api.Matrix:
		return rightMatrix(n)
	}
	return false
}

// bare tells whether all fields but Kind and L are zero.
func bare(n api.Node) bool {
	return n.Value == api.Value{} && n.Name == "" && n.Area == api.Area{} && n.Rows == 0
}

func rightLit(n api.Node) bool {
	v := n.Value
	n.Value = api.Value{}
	return v.Kind != api.Blank && value.Right(v) && bare(n) && len(n.L) == 0
}

func hasRow(c api.Corner) bool {
	return c.Row != api.Id{}
}

func hasCol(c api.Corner) bool {
	return c.Col != api.Id{}
}

func rightRange(area api.Area) bool {
	a, b := area.A, area.B
	if hasRow(a) != hasRow(b) || hasCol(a) != hasCol(b) || !hasRow(a) && !hasCol(a) {
		return false
	}
	if !hasCol(a) && (a.FixCol || b.FixCol) {
		return false
	}
	return hasRow(a) || !a.FixRow && !b.FixRow
}

func isSign(n api.Node, nodes int, signs string) bool {
	name := n.Name
	n.Name = ""
	return name != "" && !strings.Contains(name, " ") && strings.Contains(signs, " "+name+" ") && bare(n) && len(n.L) == nodes
}

func rightMatrix(n api.Node) bool {
	rows := n.Rows
	n.Rows = 0
	for _, x := range n.L {
		if x.Kind != api.Lit {
			return false
		}
	}
	return rows >= 1 && len(n.L) >= 1 && len(n.L)%rows == 0 && bare(n)
}

func isLetter(c byte) bool {
	return c >= 'A' && c <= 'Z'
}

func isDigit(c byte) bool {
	return c >= '0' && c <= '9'
}

// isFunction tells whether s is a function's name.
func isFunction(s string) bool {
	if !isWord(s, isLetter, ".") {
		return false
	}
	letters, digits := lettersThenDigits(s)
	return !(letters <= 3 && digits >= 1 && digits <= 7 && letters+digits == len(s) && s[letters] != '0')
}

// isName tells whether s is a name.
func isName(s string) bool {
	if !isWord(s, func(c byte) bool { return isLetter(c) || c == '_' }, "_.") || s == "TRUE" || s == "FALSE" {
		return false
	}
	letters, digits := lettersThenDigits(s)
	if letters >= 1 && letters <= 3 && digits >= 1 && letters+digits == len(s) {
		return false
	}
	return !isRowCol(s)
}

// isWord tells whether s begins so, goes on with capital letters, digits and more, and isn't too long.
func isWord(s string, begins func(c byte) bool, more string) bool {
	if s == "" || len(s) > mostName || !begins(s[0]) {
		return false
	}
	for i := range len(s) {
		if c := s[i]; !isLetter(c) && !isDigit(c) && strings.IndexByte(more, c) < 0 {
			return false
		}
	}
	return true
}

// lettersThenDigits tells how many letters s begins with, and how many digits follow.
func lettersThenDigits(s string) (letters, digits int) {
	for letters < len(s) && isLetter(s[letters]) {
		letters++
	}
	for letters+digits < len(s) && isDigit(s[letters+digits]) {
		digits++
	}
	return letters, digits
}

// isRowCol tells whether s is R, C, or both, with or without digits behind each.
func isRowCol(s string) bool {
	rest := withoutDigits(s, "R")
	return withoutDigits(rest, "C") == ""
}

func withoutDigits(s, letter string) string {
	rest, found := strings.CutPrefix(s, letter)
	if !found {
		return s
	}
	return strings.TrimLeft(rest, "0123456789")
}
