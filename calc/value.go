package calc

import (
	"slices"

	"instar/api"
	"instar/num"
	"instar/schema"
	"instar/value"
)

// sum is what two numbers come to; ErrOver, if that is no number.
type sum func(a, b int64) (int64, api.Errno)

// sums are those of all Ops.
func sums() map[string]sum {
	return map[string]sum{"+": num.Add, "-": num.Sub, "*": num.Mul}
}

// scope is what an expression is asked of: a row that fits the columns.
type scope struct {
	cols schema.Schema
	row  api.Row
	sums map[string]sum
}

// value is that of a node that has a kind. The Kids' values are of their kinds, or null: so what comes of those that are not null is of the node's kind.
func (s scope) value(n api.Node) (api.Value, api.Errno) {
	kids, fault := each(n.Kids, s.value)
	if fault != api.OK {
		return api.Value{}, fault
	}
	decides := false
	switch n.Op {
	case "num", "text", "true", "false", "null":
		return literal(n)
	case "col":
		at, _ := s.cols.Find(n.Text)
		return s.row[at], api.OK
	case "is null":
		return truth(isNull(kids[0])), api.OK
	case "or":
		decides = true
		fallthrough
	case "and":
		return decided(decides, kids...), api.OK
	}
	if slices.ContainsFunc(kids, isNull) {
		return api.Value{}, api.OK
	}
	switch n.Op {
	case "not":
		return truth(kids[0] == truth(false)), api.OK
	case "neg":
		// It is 0 less its Kid, of the Kid's kind.
		n.Op, kids = "-", []api.Value{{Kind: kids[0].Kind}, kids[0]}
		fallthrough
	case "+", "-", "*":
		return s.sum(n.Op, kids[0], kids[1])
	}
	return truth(so(n.Op, kids[0], kids[1])), api.OK
}

// sum is what two numbers come to, of the wider one's kind.
func (s scope) sum(op string, a, b api.Value) (api.Value, api.Errno) {
	n, fault := s.sums[op](a.N, b.N)
	if fault != api.OK {
		return api.Value{}, fault
	}
	v, fault := value.Cast(api.Value{Kind: api.Int64, N: n}, wider(a.Kind, b.Kind))
	if fault != api.OK {
		return api.Value{}, api.ErrOver
	}
	return v, api.OK
}

// decided is the truth that decides, if one of them is; else null, if one is; else the other truth.
func decided(decides bool, l ...api.Value) api.Value {
	switch {
	case slices.Contains(l, truth(decides)):
		return truth(decides)
	case slices.ContainsFunc(l, isNull):
		return api.Value{}
	}
	return truth(!decides)
}

// so tells whether a test of two values holds.
func so(op string, a, b api.Value) bool {
	// Numbers of both kinds are in one order, not each kind's in its own.
	b.Kind = a.Kind
	c := value.Compare(a, b)
	switch op {
	case "=":
		return c == 0
	case "<>":
		return c != 0
	case "<":
		return c < 0
	case "<=":
		return c <= 0
	case ">":
		return c > 0
	}
	return c >= 0
}

// truth is a truth's value.
func truth(is bool) api.Value {
	v := api.Value{Kind: api.Bool}
	if is {
		v.N = 1
	}
	return v
}

func isNull(v api.Value) bool { return v.Kind == api.Null }
