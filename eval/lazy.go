package eval

import (
	"counterpane/api"
	"counterpane/num"
	"counterpane/shape"
	"counterpane/value"
)

// Lazy tells whether the function is one that doesn't evaluate all of its nodes.
func Lazy(name string) bool {
	_, ok := (&evaluator{}).lazy()[name]
	return ok
}

// lazy tells the lazy functions, each of its nodes and the names that are bound.
func (e *evaluator) lazy() map[string]func(l []api.Node, bound []binding) api.Array {
	return map[string]func(l []api.Node, bound []binding) api.Array{
		"IF":      e.ifTrue,
		"IFERROR": e.ifError,
		"IFNA":    e.ifNA,
		"CHOOSE":  e.choose,
		"SWITCH":  e.switched,
		"LET":     e.let,
	}
}

func (e *evaluator) ifTrue(l []api.Node, bound []binding) api.Array {
	if len(l) < 2 || len(l) > 3 {
		return fault(api.FaultValue)
	}
	other := func() api.Array {
		if len(l) == 2 {
			return shape.One(value.Truth(false))
		}
		return e.node(l[2], bound)
	}
	c := e.node(l[0], bound)
	if len(c.L) > 1 {
		a := e.node(l[1], bound)
		return chosen(c, a, other())
	}
	truth, bad := value.ToTruth(c.L[0])
	switch {
	case bad != 0:
		return fault(bad)
	case truth:
		return e.node(l[1], bound)
	}
	return other()
}

// chosen tells, at each place of the common shape, a's value or b's, as c's truth is there.
func chosen(c, a, b api.Array) api.Array {
	rows, cols := max(c.Rows, a.Rows, b.Rows), max(c.Cols, a.Cols, b.Cols)
	if rows*cols > api.MaxArray {
		return fault(api.FaultNum)
	}
	out := api.Array{Rows: rows, Cols: cols}
	for row := range rows {
		for col := range cols {
			z, hasC := shape.Spread(c, row, col)
			x, hasA := shape.Spread(a, row, col)
			y, hasB := shape.Spread(b, row, col)
			truth, bad := value.ToTruth(z)
			switch {
			case !hasC || !hasA || !hasB:
				x = value.Bad(api.FaultNA)
			case bad != 0:
				x = value.Bad(bad)
			case !truth:
				x = y
			}
			out.L = append(out.L, x)
		}
	}
	return out
}

func (e *evaluator) ifError(l []api.Node, bound []binding) api.Array {
	return e.instead(l, bound, func(v api.Value) bool { return v.Kind == api.Fault })
}

func (e *evaluator) ifNA(l []api.Node, bound []binding) api.Array {
	return e.instead(l, bound, func(v api.Value) bool { return v == value.Bad(api.FaultNA) })
}

// instead tells the first node's values, and the second one's in the place of those that are such faults.
func (e *evaluator) instead(l []api.Node, bound []binding, such func(v api.Value) bool) api.Array {
	if len(l) != 2 {
		return fault(api.FaultValue)
	}
	x := e.node(l[0], bound)
	if len(x.L) == 1 {
		if such(x.L[0]) {
			return e.node(l[1], bound)
		}
		return x
	}
	return shape.Both(x, e.node(l[1], bound), func(v, w api.Value) api.Value {
		if such(v) {
			return w
		}
		return v
	})
}

func (e *evaluator) choose(l []api.Node, bound []binding) api.Array {
	if len(l) < 2 {
		return fault(api.FaultValue)
	}
	n, bad := value.ToNum(e.node(l[0], bound).L[0])
	if bad != 0 {
		return fault(bad)
	}
	i, ok := num.Int(num.Floor(n))
	if !ok || i < 1 || i >= len(l) {
		return fault(api.FaultValue)
	}
	return e.node(l[i], bound)
}

func (e *evaluator) switched(l []api.Node, bound []binding) api.Array {
	if len(l) < 3 {
		return fault(api.FaultValue)
	}
	x := e.node(l[0], bound).L[0]
	if x.Kind == api.Fault {
		return shape.One(x)
	}
	for l = l[1:]; len(l) > 1; l = l[2:] {
		k := e.node(l[0], bound).L[0]
		switch {
		case k.Kind == api.Fault:
			return shape.One(k)
		case value.Compare(k, x) == 0:
			return e.node(l[1], bound)
		}
	}
	if len(l) == 0 {
		return fault(api.FaultNA)
	}
	return e.node(l[0], bound)
}

func (e *evaluator) let(l []api.Node, bound []binding) api.Array {
	last := len(l) - 1
	if last < 2 || last%2 == 1 {
		return fault(api.FaultValue)
	}
	for i := 0; i < last; i += 2 {
		if l[i].Kind != api.Name {
			return fault(api.FaultName)
		}
	}
	// Without room behind them, what is bound here is seen by nobody outside.
	inside := bound[:len(bound):len(bound)]
	for i := 0; i < last; i += 2 {
		inside = append(inside, binding{l[i].Name, e.node(l[i+1], inside)})
	}
	return e.node(l[last], inside)
}
