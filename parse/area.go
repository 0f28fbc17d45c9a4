package parse

import (
	"strconv"
	"strings"

	"counterpane/addr"
	"counterpane/api"
	"counterpane/lex"
	"counterpane/num"
)

// marked reads what begins with a mark.
func (p *parser) marked() api.Node {
	if !p.isCell() {
		if strings.Trim(p.text(), "$0123456789") == "" {
			return p.span(p.row)
		}
		return p.span(p.column)
	}
	if p.follows(":") {
		return p.span(p.cell)
	}
	n := api.Node{Kind: api.One, Area: api.Area{A: p.cell()}}
	if p.is("#") {
		p.step()
		n.Kind = api.Spill
	}
	return p.node(n)
}

func (p *parser) isCell() bool {
	_, ok := addr.Parse(p.text())
	return ok && p.kind() == lex.MarkTok
}

// span reads a range of two corners of one sort.
func (p *parser) span(corner func() api.Corner) api.Node {
	n := api.Node{Kind: api.Range}
	n.Area.A = corner()
	p.expect(":")
	n.Area.B = corner()
	return p.node(n)
}

// cell reads a corner with a row and a column.
func (p *parser) cell() api.Corner {
	if !p.isCell() {
		p.fail(api.ErrForm)
		return api.Corner{}
	}
	m, _ := addr.Parse(p.text())
	row, hasRow := p.rows.At(m.Row)
	col, hasCol := p.cols.At(m.Col)
	if !hasRow || !hasCol {
		p.fail(api.ErrPlace)
	}
	p.step()
	return api.Corner{Row: row, Col: col, FixRow: m.FixRow, FixCol: m.FixCol}
}

// column reads a corner of a column alone.
func (p *parser) column() api.Corner {
	letters, fix := p.alone(lex.NameTok)
	place, ok := addr.Column(letters)
	if !ok {
		p.fail(api.ErrForm)
		return api.Corner{}
	}
	col, live := p.cols.At(place)
	if !live {
		p.fail(api.ErrPlace)
	}
	p.step()
	return api.Corner{Col: col, FixCol: fix}
}

// row reads a corner of a row alone.
func (p *parser) row() api.Corner {
	digits, fix := p.alone(lex.NumberTok)
	if len(digits) > 7 || strings.Trim(digits, "0123456789") != "" || strings.HasPrefix(digits, "0") {
		digits = ""
	}
	number, err := strconv.Atoi(digits)
	if err != nil {
		p.fail(api.ErrForm)
		return api.Corner{}
	}
	row, live := p.rows.At(number - 1)
	if !live {
		p.fail(api.ErrPlace)
	}
	p.step()
	return api.Corner{Row: row, FixRow: fix}
}

// alone tells the next token's text, if it is of that kind, or a mark with a $ ahead, which is left out.
func (p *parser) alone(kind int) (string, bool) {
	switch p.kind() {
	case kind:
		return p.text(), false
	case lex.MarkTok:
		return strings.CutPrefix(p.text(), "$")
	}
	return "", false
}

// matrix reads literals in { and }.
func (p *parser) matrix() api.Node {
	p.step()
	n := api.Node{Kind: api.Matrix, Rows: 1, L: []api.Node{p.item()}}
	cols, inRow := 0, 1
	for p.is(",") || p.is(";") {
		if p.is(",") && inRow == cols || p.is(";") && cols > 0 && inRow < cols {
			break
		}
		if p.is(";") {
			cols, inRow = inRow, 0
			n.Rows++
		}
		inRow++
		p.step()
		if item := p.item(); p.made <= api.MaxNodes {
			n.L = append(n.L, item)
		}
	}
	if cols > 0 && inRow < cols {
		p.fail(api.ErrForm)
	}
	p.expect("}")
	return p.node(n)
}

// item reads a literal of a matrix.
func (p *parser) item() api.Node {
	if !p.is("-") {
		return p.literal()
	}
	p.step()
	if p.kind() != lex.NumberTok {
		p.fail(api.ErrForm)
	}
	n := p.literal()
	n.Value.Num = num.Neg(n.Value.Num)
	return n
}
