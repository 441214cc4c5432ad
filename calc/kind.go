package calc

import (
	"slices"

	"instar/api"
	"instar/schema"
	"instar/value"
)

// kind is that of a node whose Kids are of these kinds.
func kind(n api.Node, s schema.Schema, kids ...api.Kind) (api.Kind, api.Errno) {
	if !formed(n) {
		return api.Null, api.ErrArg
	}
	switch n.Op {
	case "num", "text", "true", "false", "null":
		v, fault := literal(n)
		return v.Kind, fault
	case "col":
		at, is := s.Find(n.Text)
		if !is {
			return api.Null, api.ErrName
		}
		return s[at].Kind, api.OK
	case "+", "-", "*", "neg":
		return number(kids...)
	case "and", "or", "not":
		if !all(kids, isTruth) {
			break
		}
		// Truths can be held against each other, too: the next case lets them through.
		fallthrough
	case "=", "<>", "<", "<=", ">", ">=":
		if !alike(kids) {
			break
		}
		fallthrough
	case "is null":
		return api.Bool, api.OK
	}
	return api.Null, api.ErrType
}

// number is the kind of what numbers of these kinds come to: the widest one.
func number(kinds ...api.Kind) (api.Kind, api.Errno) {
	if !all(kinds, isNumber) {
		return api.Null, api.ErrType
	}
	return wider(kinds...), api.OK
}

// wider is the widest of numbers' kinds.
func wider(kinds ...api.Kind) api.Kind {
	widest := api.Null
	for _, k := range kinds {
		if value.Wider(k, widest) {
			widest = k
		}
	}
	return widest
}

// alike tells whether values of these kinds can be held against each other.
func alike(kinds []api.Kind) bool {
	if slices.Contains(kinds, api.Null) || all(kinds, isNumber) {
		return true
	}
	return all(kinds, func(k api.Kind) bool { return k == kinds[0] })
}

// isTruth tells whether what is of a kind can be a truth; null may stand for one.
func isTruth(k api.Kind) bool {
	return k == api.Null || k == api.Bool
}

// isNumber tells whether what is of a kind can be a number; null may stand for one.
func isNumber(k api.Kind) bool {
	return k == api.Null || k == api.Int32 || k == api.Int64
}

// all tells whether all kinds are as asked.
func all(kinds []api.Kind, asked func(k api.Kind) bool) bool {
	return !slices.ContainsFunc(kinds, func(k api.Kind) bool { return !asked(k) })
}
