package calc

import (
	"slices"

	"counterpane/api"
	"counterpane/axis"
	"counterpane/cycle"
	"counterpane/deps"
	"counterpane/eval"
	"counterpane/shape"
	"counterpane/sheet"
	"counterpane/spill"
	"counterpane/tree"
	"counterpane/value"
)

type place struct{ row, col int }

// formula is a formula cell: its tree, as it is typed, and the places of the cells that it reads and names.
type formula struct {
	cell         api.Cell
	place        place
	tree         api.Node
	reads, names []place
}

// run is the rounds of one sheet; what the last pass came to stands in the result.
type run struct {
	sheet      *sheet.Sheet
	f          func(at api.Cell, n api.Node, v eval.View) api.Array
	rows, cols map[api.Id]int
	formulas   []formula
	result     *Result
}

func placesOf(a *axis.Axis) map[api.Id]int {
	out := map[api.Id]int{}
	for i, id := range a.Live() {
		out[id] = i
	}
	return out
}

// placeOf tells the place of a cell.
func (r *run) placeOf(c api.Cell) (place, bool) {
	row, hasRow := r.rows[c.Row]
	col, hasCol := r.cols[c.Col]
	return place{row, col}, hasRow && hasCol
}

// gather notes what stands on the sheet.
func (r *run) gather(s *sheet.Sheet) {
	r.sheet = s
	r.rows, r.cols = placesOf(s.Rows), placesOf(s.Cols)
	out := r.result
	out.rows, out.cols = len(r.rows), len(r.cols)
	out.index, out.typed = map[place]int{}, map[place]api.Value{}
	out.board = spill.New(out.rows, out.cols)
	for at, c := range s.Live() {
		p, _ := r.placeOf(at)
		out.board.Fill(p.row, p.col)
		if c.Kind == api.Typed {
			out.typed[p] = c.Value
			continue
		}
		x := formula{cell: at, place: p, tree: c.Tree}
		for c := range deps.Reads(c.Tree, s) {
			q, _ := r.placeOf(c)
			x.reads = append(x.reads, q)
		}
		for c := range deps.Spills(c.Tree, s) {
			q, _ := r.placeOf(c)
			x.names = append(x.names, q)
		}
		out.index[p] = len(r.formulas)
		out.cells = append(out.cells, at)
		r.formulas = append(r.formulas, x)
	}
}

// edges tells the graph of who hangs on whom.
func (r *run) edges() *cycle.Graph {
	g := cycle.New(len(r.formulas))
	for x, formula := range r.formulas {
		for _, p := range formula.reads {
			owner, _ := r.result.board.Owner(p.row, p.col)
			if y, ok := r.result.index[p]; ok {
				g.Edge(x, y)
			} else if y, ok := r.result.index[place{owner.Row, owner.Col}]; ok && owner != (spill.Rect{}) {
				g.Edge(x, y)
			}
		}
		for _, p := range formula.names {
			if y, ok := r.result.index[p]; ok {
				g.Edge(x, y)
			}
		}
	}
	return g
}

// inRings tells which nodes are in a ring.
func (r *run) inRings(g *cycle.Graph) []bool {
	out := make([]bool, len(r.formulas))
	for _, part := range g.Parts() {
		for _, x := range part {
			// In a part of more than one each node has a ring; one alone has one, if it hangs on itself.
			out[x] = len(part) > 1 || r.hangsOnItself(x)
		}
	}
	return out
}

func (r *run) hangsOnItself(x int) bool {
	formula := r.formulas[x]
	own := func(p place) bool {
		owner, _ := r.result.board.Owner(p.row, p.col)
		return p == formula.place || owner != (spill.Rect{}) && formula.place == place{owner.Row, owner.Col}
	}
	return slices.ContainsFunc(formula.reads, own) || slices.Contains(formula.names, formula.place)
}

// pass tells of each formula cell its array, by the board as it is.
func (r *run) pass() {
	g := r.edges()
	r.result.graph = g
	r.result.arrays = make([]api.Array, len(r.formulas))
	r.result.inRing = r.inRings(g)
	for _, x := range g.Order() {
		r.result.arrays[x] = r.array(x)
	}
}

// array tells what a formula cell comes to, if those on which it hangs are reckoned.
func (r *run) array(x int) api.Array {
	at := r.formulas[x].place
	rect, stands, decided := r.result.board.Decided(at.row, at.col)
	if decided && !stands {
		return shape.One(value.Bad(api.FaultSpill))
	}
	if !decided {
		rect = spill.Rect{Rows: 1, Cols: 1}
	}
	circle := filled(rect.Rows, rect.Cols, value.Bad(api.FaultCycle))
	if r.result.inRing[x] {
		return circle
	}
	a := r.told(x)
	if stands && (a.Rows != rect.Rows || a.Cols != rect.Cols) {
		return circle
	}
	return a
}

func filled(rows, cols int, v api.Value) api.Array {
	return api.Array{Rows: rows, Cols: cols, L: slices.Repeat([]api.Value{v}, rows*cols)}
}

// told tells what f tells of a formula cell.
func (r *run) told(x int) api.Array {
	broken := shape.One(value.Bad(api.FaultCalc))
	if r.f == nil {
		return broken
	}
	formula := r.formulas[x]
	a := r.f(formula.cell, tree.Map(formula.tree, nil), view{r})
	a, ok := shape.Make(a.Rows, a.Cols, a.L...)
	if !ok {
		return broken
	}
	return a
}

// view tells what cells show in a pass.
type view struct{ run *run }

// Value tells what a cell shows.
func (v view) Value(c api.Cell) api.Value {
	p, ok := v.run.placeOf(c)
	if !ok {
		return api.Value{}
	}
	return v.run.result.Value(p.row, p.col)
}

// Spill tells how many rows and columns the spill of a cell has.
func (v view) Spill(c api.Cell) (rows, cols int, ok bool) {
	p, live := v.run.placeOf(c)
	if _, isFormula := v.run.result.index[p]; !live || !isFormula {
		return 0, 0, false
	}
	if rect, stands, _ := v.run.result.board.Decided(p.row, p.col); stands {
		return rect.Rows, rect.Cols, true
	}
	return 1, 1, true
}

// Sheet tells the sheet.
func (v view) Sheet() *sheet.Sheet {
	return v.run.sheet
}

// wide tells the open cells whose array has more than one value.
func (r *run) wide() []int {
	var out []int
	for x, a := range r.result.arrays {
		at := r.formulas[x].place
		if _, _, decided := r.result.board.Decided(at.row, at.col); !decided && len(a.L) > 1 {
			out = append(out, x)
		}
	}
	return out
}

// next tells which of the wide ones is decided: the first that hangs on no other one.
func (r *run) next(wide []int) int {
	g := r.edges()
	for x, formula := range r.formulas {
		for _, w := range wide {
			if slices.ContainsFunc(formula.reads, func(p place) bool { return r.wouldCover(w, p) }) {
				g.Edge(x, w)
			}
		}
	}
	for _, w := range wide {
		others := 0
		for _, y := range g.Reach(w) {
			if _, isWide := slices.BinarySearch(wide, y); isWide && y != w {
				others++
			}
		}
		if others == 0 {
			return w
		}
	}
	return wide[0]
}

// wouldCover tells whether an array, if it stood, would have the cell at a place.
func (r *run) wouldCover(x int, p place) bool {
	at, a := r.formulas[x].place, r.result.arrays[x]
	return p.row >= at.row && p.col >= at.col && p.row < at.row+a.Rows && p.col < at.col+a.Cols
}
