package tree

import (
	"strconv"
	"strings"

	"counterpane/api"
)

// Code tells a text from which the tree can be read.
func Code(n api.Node) (string, api.Errno) {
	if e := Check(n); e != api.OK {
		return "", e
	}
	var out strings.Builder
	walk(&n, func(x *api.Node) bool {
		out.WriteString(part(x) + ";")
		return true
	})
	return out.String(), api.OK
}

// part tells a node's own part of the code.
func part(n *api.Node) string {
	switch n.Kind {
	case api.Lit:
		return literal(n.Value)
	case api.One:
		return "O" + corner(n.Area.A)
	case api.Spill:
		return "P" + corner(n.Area.A)
	case api.Range:
		return "R" + corner(n.Area.A) + ":" + corner(n.Area.B)
	case api.Call:
		return "C" + counted(n.Name) + "," + strconv.Itoa(len(n.L))
	case api.Unary:
		return "U" + n.Name
	case api.Binary:
		return "B" + n.Name
	case api.Name:
		return "M" + counted(n.Name)
	case api.Matrix:
		return "A" + strconv.Itoa(n.Rows) + "," + strconv.Itoa(len(n.L))
	}
	return "X"
}

func literal(v api.Value) string {
	switch v.Kind {
	case api.Number:
		return "N" + strconv.Itoa(v.Num.Mant) + "e" + strconv.Itoa(v.Num.Exp)
	case api.String:
		return "S" + counted(v.Text)
	case api.Fault:
		return "E" + strconv.Itoa(v.Fault)
	}
	if v.Truth {
		return "T"
	}
	return "F"
}

// counted tells a text with its length ahead.
func counted(s string) string {
	return strconv.Itoa(len(s)) + ":" + s
}

func corner(c api.Corner) string {
	fix := 0
	if c.FixRow {
		fix++
	}
	if c.FixCol {
		fix += 2
	}
	return id(c.Row) + "," + id(c.Col) + "," + strconv.Itoa(fix)
}

func id(x api.Id) string {
	return strconv.Itoa(x.Author) + "." + strconv.Itoa(x.N)
}

// Decode tells the tree whose Code s is.
func Decode(s string) (api.Node, api.Errno) {
	r := reader{rest: s, left: api.MaxNodes}
	n := r.node(1)
	if r.wrong || r.rest != "" {
		return api.Node{}, api.ErrForm
	}
	// A number may be written in more than one way, and just one is Code's.
	if again, e := Code(n); e != api.OK || again != s {
		return api.Node{}, api.ErrForm
	}
	return n, api.OK
}

// reader takes a code apart from the left; once it is wrong, it stays so.
type reader struct {
	rest  string
	left  int
	wrong bool
}

func (r *reader) node(depth int) api.Node {
	r.left--
	if r.left < 0 || depth > api.MaxDepth || r.rest == "" {
		r.wrong = true
	}
	if r.wrong {
		return api.Node{}
	}
	kind := r.rest[0]
	r.rest = r.rest[1:]
	n, nodes := r.own(kind)
	r.sign(";")
	for i := 0; i < nodes && !r.wrong; i++ {
		n.L = append(n.L, r.node(depth+1))
	}
	return n
}

// own reads a node's own part, and tells how many nodes follow.
func (r *reader) own(kind byte) (n api.Node, nodes int) {
	switch kind {
	case 'N', 'S', 'T', 'F', 'E':
		n.Value = r.literal(kind)
	case 'O':
		n.Kind, n.Area.A = api.One, r.corner()
	case 'P':
		n.Kind, n.Area.A = api.Spill, r.corner()
	case 'R':
		n.Kind, n.Area.A = api.Range, r.corner()
		r.sign(":")
		n.Area.B = r.corner()
	case 'C':
		n.Kind, n.Name = api.Call, r.counted()
		r.sign(",")
		nodes = r.number()
	case 'U':
		n.Kind, n.Name, nodes = api.Unary, r.upTo(";"), 1
	case 'B':
		n.Kind, n.Name, nodes = api.Binary, r.upTo(";"), 2
	case 'M':
		n.Kind, n.Name = api.Name, r.counted()
	case 'A':
		n.Kind, n.Rows = api.Matrix, r.number()
		r.sign(",")
		nodes = r.number()
	case 'X':
		n.Kind = api.Missing
	default:
		r.wrong = true
	}
	return n, nodes
}

func (r *reader) literal(kind byte) (v api.Value) {
	switch kind {
	case 'N':
		v.Kind, v.Num.Mant = api.Number, r.number()
		r.sign("e")
		v.Num.Exp = r.number()
	case 'S':
		v.Kind, v.Text = api.String, r.counted()
	case 'E':
		v.Kind, v.Fault = api.Fault, r.number()
	default:
		v.Kind, v.Truth = api.Bool, kind == 'T'
	}
	return v
}

func (r *reader) corner() (c api.Corner) {
	c.Row = r.id()
	r.sign(",")
	c.Col = r.id()
	r.sign(",")
	fix := r.number()
	c.FixRow, c.FixCol = fix == 1 || fix == 3, fix == 2 || fix == 3
	return c
}

func (r *reader) id() (x api.Id) {
	x.Author = r.number()
	r.sign(".")
	x.N = r.number()
	return x
}

func (r *reader) number() int {
	end := len(r.rest) - len(strings.TrimLeft(r.rest, "-0123456789"))
	n, err := strconv.Atoi(r.rest[:end])
	if err != nil {
		r.wrong = true
		return 0
	}
	r.rest = r.rest[end:]
	return n
}

func (r *reader) counted() string {
	size := r.number()
	r.sign(":")
	if r.wrong || size < 0 || size > len(r.rest) {
		r.wrong = true
		return ""
	}
	s := r.rest[:size]
	r.rest = r.rest[size:]
	return s
}

// upTo reads what stands ahead of a sign.
func (r *reader) upTo(sign string) string {
	s, _, found := strings.Cut(r.rest, sign)
	if !found {
		r.wrong = true
		return ""
	}
	r.rest = r.rest[len(s):]
	return s
}

func (r *reader) sign(s string) {
	rest, found := strings.CutPrefix(r.rest, s)
	r.rest = rest
	r.wrong = r.wrong || !found
}
