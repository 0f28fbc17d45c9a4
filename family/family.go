// Package family keeps functions by their names, as the layers 11 to 15 have them.
package family

import (
	"maps"
	"slices"

	"counterpane/api"
	"counterpane/num"
	"counterpane/shape"
	"counterpane/value"
)

// Most arguments that a function takes which takes as many as one likes.
const Most = 32

// Function is how many arguments a function takes, at least and at most, and what it tells of so many.
type Function struct {
	Least, Most int
	Tell        func(args []api.Array) api.Array
}

// Table has functions by their names.
type Table map[string]Function

// Call tells what the function of that name tells; of an argument that may not be the fault broken.
func (t Table) Call(name string, args []api.Array, broken int) (api.Array, bool) {
	f, ok := t[name]
	switch {
	case !ok:
		return api.Array{}, false
	case len(args) < f.Least || len(args) > f.Most:
		return Fault(api.FaultValue), true
	}
	for _, a := range args {
		if !shape.Right(a) {
			return Fault(broken), true
		}
	}
	return copied(f.Tell(args)), true
}

// copied tells a in memory of its own: an argument may be told as it is.
func copied(a api.Array) api.Array {
	a.L = slices.Clone(a.L)
	return a
}

// Names tells the names, rising.
func (t Table) Names() []string {
	return slices.Sorted(maps.Keys(t))
}

// Count tells how many arguments a function takes.
func (t Table) Count(name string) (least, most int, ok bool) {
	f, ok := t[name]
	return f.Least, f.Most, ok
}

// Fault tells the array of 1 with a fault.
func Fault(fault int) api.Array {
	return shape.One(value.Bad(fault))
}

// Whole tells the greatest whole number that isn't above a value's number; or a fault: tooGreat, if that doesn't fit.
func Whole(v api.Value, tooGreat int) (int, int) {
	n, fault := value.ToNum(v)
	if fault != 0 {
		return 0, fault
	}
	k, ok := num.Int(num.Floor(n))
	if !ok {
		return 0, tooGreat
	}
	return k, 0
}

// Values tells all values of all arguments, from the left.
func Values(args []api.Array) []api.Value {
	var out []api.Value
	for _, a := range args {
		out = append(out, a.L...)
	}
	return out
}
