package fmath

import (
	"strings"

	"counterpane/api"
	"counterpane/family"
	"counterpane/shape"
	"counterpane/value"
)

// criterion tells which values fit it; or a fault.
func criterion(a api.Array) (fits func(v api.Value) bool, fault int) {
	v := a.L[0]
	if v.Kind == api.Fault {
		return nil, v.Fault
	}
	sign, sought := "=", v
	if v.Kind == api.String {
		for _, s := range []string{">=", "<=", "<>", ">", "<", "="} {
			if rest, found := strings.CutPrefix(v.Text, s); found {
				sign, sought = s, value.Read(rest)
				break
			}
		}
	}
	return func(v api.Value) bool {
		alike := v.Kind == sought.Kind
		c := value.Compare(v, sought)
		switch sign {
		case "=":
			return alike && c == 0
		case "<>":
			return !alike || c != 0
		case ">":
			return alike && c > 0
		case "<":
			return alike && c < 0
		case ">=":
			return alike && c >= 0
		}
		return alike && c <= 0
	}, 0
}

func countIf(args []api.Array) api.Array {
	fits, fault := criterion(args[1])
	if fault != 0 {
		return family.Fault(fault)
	}
	return count(fits)(args[:1])
}

func sumIf(args []api.Array) api.Array {
	fits, fault := criterion(args[1])
	if fault != 0 {
		return family.Fault(fault)
	}
	from := args[len(args)-1]
	if len(args) == 2 {
		from = args[0]
	}
	if from.Rows != args[0].Rows || from.Cols != args[0].Cols {
		return family.Fault(api.FaultValue)
	}
	var l []api.Value
	for i, v := range args[0].L {
		if fits(v) {
			l = append(l, from.L[i])
		}
	}
	if fault := firstFault(l); fault != 0 {
		return family.Fault(fault)
	}
	return shape.One(told(sum(numbersOf(l))))
}
