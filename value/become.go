package value

import (
	"counterpane/api"
	"counterpane/num"
)

// ToNum tells v as a number, or a fault.
func ToNum(v api.Value) (api.Num, int) {
	switch v.Kind {
	case api.Blank:
		return api.Num{}, 0
	case api.Number:
		return v.Num, 0
	case api.Bool:
		return api.Num{Mant: truthRank(v.Truth)}, 0
	case api.Fault:
		return api.Num{}, v.Fault
	}
	n, ok := num.Parse(v.Text)
	if !ok {
		return api.Num{}, api.FaultValue
	}
	return n, 0
}

// ToText tells v as a text, or a fault.
func ToText(v api.Value) (string, int) {
	switch v.Kind {
	case api.Blank:
		return "", 0
	case api.Number:
		return num.Text(v.Num), 0
	case api.Bool:
		if v.Truth {
			return "TRUE", 0
		}
		return "FALSE", 0
	case api.Fault:
		return "", v.Fault
	}
	return v.Text, 0
}

// ToTruth tells v as a truth, or a fault.
func ToTruth(v api.Value) (bool, int) {
	switch v.Kind {
	case api.Blank:
		return false, 0
	case api.Number:
		return v.Num != api.Num{}, 0
	case api.Bool:
		return v.Truth, 0
	case api.Fault:
		return false, v.Fault
	}
	b, ok := readTruth(v.Text)
	if !ok {
		return false, api.FaultValue
	}
	return b, 0
}
