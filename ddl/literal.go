package ddl

import (
	"instar/api"
	"instar/num"
)

// mostFigures is how many figures a number has at the most (8).
const mostFigures = 19

// literal is a literal's value, of the kind that it has by itself; false, if it is none.
func literal(n api.Node) (api.Value, bool) {
	if !isLiteral(n) {
		return api.Value{}, false
	}
	var v api.Value
	var below bool
	switch n.Op {
	case "neg":
		if n.Text != "" {
			return v, false
		}
		below = true
		n = n.Kids[0]
		fallthrough
	case "num":
		return number(n.Text, below)
	case "text":
		return api.Value{Kind: api.Text, S: n.Text}, true
	case "true":
		v.N = 1
		fallthrough
	case "false":
		v.Kind = api.Bool
		fallthrough
	case "null":
		return v, n.Text == ""
	}
	return api.Value{}, false
}

// number is the value of figures, or, below 0, of as much with a sign.
func number(s string, below bool) (api.Value, bool) {
	n, ok := amount(s)
	if !ok {
		return api.Value{}, false
	}
	if below {
		// No amount is too great for that: it is a number itself.
		n = -n
	}
	if _, e := num.Narrow(n); e == api.OK {
		return api.Value{Kind: api.Int32, N: n}, true
	}
	return api.Value{Kind: api.Int64, N: n}, true
}

// amount is the number that figures are.
func amount(s string) (int64, bool) {
	if len(s) < 1 || len(s) > mostFigures {
		return 0, false
	}
	var n int64
	for _, c := range s {
		if c < '0' || c > '9' {
			return 0, false
		}
		tens, e := num.Mul(n, 10)
		if e != api.OK {
			return 0, false
		}
		if n, e = num.Add(tens, int64(c-'0')); e != api.OK {
			return 0, false
		}
	}
	return n, true
}
