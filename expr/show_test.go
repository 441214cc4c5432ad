package expr_test

import (
	"slices"
	"strings"
	"testing"

	"instar/api"
	"instar/expr"
	"instar/lex"
)

// samples are a node of each Op, by its name.
func samples() map[string]api.Node {
	m := map[string]api.Node{"num": num("7"), "text": text("x"), "true": of("true"), "false": of("false"), "null": of("null"), "col": a}
	for _, op := range ones {
		m[op] = of(op, b)
	}
	for _, op := range twos {
		m[op] = of(op, b, c)
	}
	return m
}

// trees are all nodes nested so deep at most, of these words and Ops.
func trees(deep int, leaves []api.Node, ones, twos []string) []api.Node {
	if deep == 1 {
		return leaves
	}
	all := slices.Clone(leaves)
	kids := trees(deep-1, leaves, ones, twos)
	for _, k := range kids {
		for _, op := range ones {
			all = append(all, of(op, k))
		}
		for _, m := range kids {
			for _, op := range twos {
				all = append(all, of(op, k, m))
			}
		}
	}
	return all
}

// P9.1, E2: the texts of nodes that are words, and of those with such Kids: where blanks stand, and where not.
func TestShow(t *testing.T) {
	shown(t, a, "a")
	shown(t, num("0"), "0")
	shown(t, num("9223372036854775807"), "9223372036854775807")
	shown(t, text(""), "''")
	shown(t, text("it's"), "'it''s'")
	shown(t, text("a b\n"), "'a b\n'")
	shown(t, of("true"), "true")
	shown(t, of("false"), "false")
	shown(t, of("null"), "null")
	shown(t, of("neg", a), "-a")
	shown(t, of("neg", num("1")), "-1")
	shown(t, of("not", a), "not a")
	shown(t, of("not", of("not", of("neg", a))), "not not -a")
	shown(t, of("is null", a), "a is null")
	for _, op := range twos {
		shown(t, of(op, a, b), "a "+op+" b")
		shown(t, of(op, text("'"), of("null")), "'''' "+op+" null")
		shown(t, of(op, of("neg", num("2")), of("neg", b)), "-2 "+op+" -b")
	}
	shown(t, of("-", of("-", a, of("-", b, c)), d), "a - (b - c) - d")
	shown(t, of("-", a, of("neg", of("neg", num("1")))), "a - -(-1)")
	shown(t, of("not", of("is null", of("+", a, b))), "not a + b is null")
	shown(t, of("*", of("+", a, b), of("neg", of("+", c, d))), "(a + b) * -(c + d)")
}

// P9.1, E2: a text is shown as layer 3 does: one of 200 bytes as a quote, one of 201 as ?, which is never put in brackets.
func TestShowTexts(t *testing.T) {
	for _, s := range []string{times("x", 200), times("\x00", 200), times("é", 100), times("\xff", 199)} {
		shown(t, text(s), "'"+s+"'")
		shown(t, of("neg", text(s)), "-'"+s+"'")
	}
	shown(t, text(times("'", 200)), "'"+times("'", 400)+"'")
	for _, s := range []string{times("x", 201), times("'", 201), times("é", 101), times("x", 70000)} {
		shown(t, text(s), "?")
		shown(t, of("neg", text(s)), "-?")
		shown(t, of("+", text(s), of("*", a, text(s))), "? + a * ?")
		shown(t, of("not", of("is null", text(s))), "not ? is null")
	}
}

// P9.1, E2: each Kid at each place: in brackets, if it is weaker than the place allows, and not, if it is as strong.
func TestShowBrackets(t *testing.T) {
	weakTests := "or and not = <> < <= > >= is-null"
	weak := map[string][2]string{
		"or":      {"", "or"},
		"and":     {"or", "or and"},
		"+":       {weakTests, weakTests + " + -"},
		"-":       {weakTests, weakTests + " + -"},
		"*":       {weakTests + " + -", weakTests + " + - *"},
		"not":     {"or and"},
		"is null": {weakTests},
		"neg":     {weakTests + " + - * neg"},
	}
	for _, op := range tests {
		weak[op] = [2]string{weakTests, weakTests}
	}
	// kid is the text that a sample should have where these Ops are in brackets.
	kid := func(op, list string) string {
		s := expr.Show(samples()[op])
		if slices.Contains(strings.Fields(list), strings.ReplaceAll(op, " ", "-")) {
			return "(" + s + ")"
		}
		return s
	}
	for op := range samples() {
		n := samples()[op]
		for _, two := range twos {
			shown(t, of(two, n, a), kid(op, weak[two][0])+" "+two+" a")
			shown(t, of(two, a, n), "a "+two+" "+kid(op, weak[two][1]))
			shown(t, of(two, n, n), kid(op, weak[two][0])+" "+two+" "+kid(op, weak[two][1]))
		}
		shown(t, of("not", n), "not "+kid(op, weak["not"][0]))
		shown(t, of("neg", n), "-"+kid(op, weak["neg"][0]))
		shown(t, of("is null", n), kid(op, weak["is null"][0])+" is null")
	}
}

// P9.1, E2: nodes of no Op, with other Kids than theirs, or with a Text that they do not have, are ?, alone and as Kids.
func TestShowWrong(t *testing.T) {
	var wrong []api.Node
	for _, op := range []string{"", "?", "OR", "Not", " or", "or ", "is", "isnull", "is  null", "is not null", "!=", "==", "/", "-a", "a", "(", "()", "number", "name", "true ", "True", "7", "'x'", "neg neg", "\x00"} {
		for _, s := range []string{"", "a", "7"} {
			wrong = append(wrong, api.Node{Op: op, Text: s}, api.Node{Op: op, Text: s, Kids: []api.Node{a}}, api.Node{Op: op, Text: s, Kids: []api.Node{a, b}})
		}
	}
	for op, n := range samples() {
		for k := range 5 {
			if k != len(n.Kids) {
				wrong = append(wrong, api.Node{Op: op, Text: n.Text, Kids: []api.Node{a, b, c, d}[:k]})
			}
		}
		if n.Text == "" {
			for _, s := range []string{"a", " ", "7", op, "\x00", times("x", 201)} {
				wrong = append(wrong, api.Node{Op: op, Text: s, Kids: n.Kids})
			}
		}
	}
	for _, n := range wrong {
		shown(t, n, "?")
		shown(t, of("neg", n), "-?")
		shown(t, of("not", n), "not ?")
		shown(t, of("is null", n), "? is null")
		shown(t, of("neg", of("neg", n)), "-(-?)")
		for _, op := range twos {
			shown(t, of(op, n, a), "? "+op+" a")
			shown(t, of(op, a, n), "a "+op+" ?")
			shown(t, of("not", of(op, n, n)), "not "+inNot(op))
		}
		// What is wrong hides all that it holds.
		shown(t, of("", n), "?")
		shown(t, of("*", a, n, b), "?")
	}
	// A list without elements may be nil or not.
	shown(t, api.Node{Op: "col", Text: "a", Kids: []api.Node{}}, "a")
	shown(t, api.Node{Op: "null", Kids: []api.Node{}}, "null")
	shown(t, api.Node{}, "?")
}

// inNot is two wrong nodes' text, with this Op, behind not.
func inNot(op string) string {
	if op == "or" || op == "and" {
		return "(? " + op + " ?)"
	}
	return "? " + op + " ?"
}

// P9.1, E2: brackets stand where they are needed, alone: without any pair of them it is another node, but for those about a sign below a sign.
func TestShowNoBracketsMore(t *testing.T) {
	for _, n := range trees(3, []api.Node{a}, ones, twos) {
		s := expr.Show(n)
		for i := range s {
			if s[i] != '(' {
				continue
			}
			less := s[:i] + " " + s[i+1:]
			j := closes(s, i)
			less = less[:j] + " " + less[j+1:]
			if m, _, e := expr.Parse(less); e == api.OK && like(m, n) && s[i:j] != "(-a" {
				t.Errorf("Show(%v): %q, and not %q", n, s, less)
			}
		}
	}
}

// closes is where the bracket closes that opens at a byte.
func closes(s string, at int) int {
	open := 0
	for i := at; ; i++ {
		switch s[i] {
		case '(':
			open++
		case ')':
			open--
		}
		if open == 0 {
			return i
		}
	}
}

// P9.1, E2: Same tells whether two nodes are one, by their Ops, Texts and Kids, in order.
func TestSame(t *testing.T) {
	all := []api.Node{
		{}, {Op: "?"}, {Text: "?"}, a, b, num("a"), text("a"), {Op: "col"}, num("1"), num("01"), of("col", a), {Op: "col", Text: "a", Kids: []api.Node{b}}, of("true"), of("null"),
		of("neg", a), of("neg", b), of("not", a), of("neg", of("neg", a)), of("+", a, b), of("+", b, a), of("+", a, a), of("-", a, b), of("+", a), of("+", a, b, c), of("+", a, b, api.Node{}), of("+"),
		of("+", of("+", a, b), c), of("+", a, of("+", b, c)), of("+", of("+", a, b), d), of("+", of("-", a, b), c), of("", api.Node{}), of("", of("", api.Node{})),
	}
	for i, n := range all {
		for j, m := range all {
			if expr.Same(n, m) != (i == j) {
				t.Errorf("Same(%v, %v): %v", n, m, expr.Same(n, m))
			}
		}
	}
	// A list without elements may be nil or not.
	if !expr.Same(a, api.Node{Op: "col", Text: "a", Kids: []api.Node{}}) || !expr.Same(of("neg", api.Node{Op: "null", Kids: []api.Node{}}), of("neg", of("null"))) {
		t.Error("Same tells nil from a list without elements")
	}
	for _, n := range trees(2, []api.Node{a, num("1"), {}}, ones, twos) {
		for _, m := range trees(2, []api.Node{a, num("1"), {}}, ones, twos) {
			if expr.Same(n, m) != like(n, m) {
				t.Errorf("Same(%v, %v): %v", n, m, expr.Same(n, m))
			}
		}
	}
}

// P9.2: the text of an expression's node is an expression with that node, of all nodes that are nested three deep.
func TestThereAndBack(t *testing.T) {
	leaves := []api.Node{a, num("1"), text("it's")}
	for _, n := range append(trees(3, leaves, ones, twos), of("false"), of("true"), of("null")) {
		s := expr.Show(n)
		m, at, e := expr.Parse(s)
		if e != api.OK || at != 0 || !expr.Same(n, m) || !like(n, m) {
			t.Fatalf("Parse(%q): %v, %d, %d, not %v", s, m, at, e, n)
		}
		if k := expr.Show(m); k != s {
			t.Fatalf("Show of %q: %q", s, k)
		}
	}
	for _, n := range trees(4, []api.Node{a}, []string{"not", "neg", "is null"}, []string{"-"}) {
		if m, _, e := expr.Parse(expr.Show(n)); e != api.OK || !like(n, m) {
			t.Fatalf("Parse(%q): %v, %d, not %v", expr.Show(n), m, e, n)
		}
	}
}

// P9.2: the same of words at the ends of their ranges, and of nodes nested 16 deep.
func TestThereAndBackFar(t *testing.T) {
	deepest := func(n api.Node, put func(api.Node) api.Node) api.Node {
		for range 15 {
			n = put(n)
		}
		return n
	}
	list := []api.Node{
		col(times("z", 20)), num("0"), num("9223372036854775807"), text(""), text(times("'", 200)), text(times("x", 200)), text("a\x00\xff\n"), text("or"), text("-- 1"), text("?"),
	}
	for _, op := range ones {
		list = append(list, deepest(a, func(n api.Node) api.Node { return of(op, n) }))
	}
	for _, op := range twos {
		list = append(list, deepest(a, func(n api.Node) api.Node { return of(op, n, b) }), deepest(a, func(n api.Node) api.Node { return of(op, b, n) }))
		for _, one := range ones {
			list = append(list, deepest(a, func(n api.Node) api.Node {
				if expr.Deep(n)%2 == 0 {
					return of(one, n)
				}
				return of(op, b, n)
			}))
		}
	}
	for _, n := range list {
		if m, at, e := expr.Parse(expr.Show(n)); e != api.OK || at != 0 || !like(n, m) {
			t.Errorf("Parse(%q): %v, %d, %d, not %v", expr.Show(n), m, at, e, n)
		}
	}
	// However a text was written, its node's text has its node.
	for _, s := range []string{"((a))", "- -a", "-(-(-a))", "(a=b)=c", "a-(b-c)-d", "not(not a)", "(a is null)is null", "a*(b*c)*d", "007+000", "'x'<>''", "not(a or b)and c", "((a or b))and(c)"} {
		n, _, _ := expr.Parse(s)
		if m, _, e := expr.Parse(expr.Show(n)); e != api.OK || !like(n, m) {
			t.Errorf("%q is %v, shown as %q", s, n, expr.Show(n))
		}
	}
}

// P9.1, E1, E2: what is handed in is neither written into nor kept, and what is answered is new memory.
func TestNothingShared(t *testing.T) {
	l, _, _ := lex.Words("not (a + -1) is null or 'x' = b and c")
	whole := slices.Clone(l)
	n, _, _ := expr.Read(l, 0)
	s := expr.Show(n)
	if !slices.Equal(l, whole) {
		t.Error("Read writes into words")
	}
	clear(l)
	if expr.Show(n) != s || expr.Show(n) == "?" {
		t.Errorf("Read keeps words: %v", n)
	}
	m, _, _ := expr.Read(whole, 0)
	if !expr.Same(n, m) || !like(n, m) {
		t.Errorf("Read answers another node of the same words: %v, %v", n, m)
	}
	spoil(n)
	if expr.Show(m) != s {
		t.Errorf("two answers share memory: %v", m)
	}
	// Kids that are put behind a node's Kids go into none of the other nodes.
	n, _, _ = expr.Read(whole, 0)
	grow(n)
	if expr.Show(n) != s {
		t.Errorf("two lists of one answer share memory: %v", n)
	}
	k := of("+", of("neg", a), of("text", a))
	before := of("+", of("neg", a), of("text", a))
	expr.Show(k)
	expr.Deep(k)
	if expr.Same(k, k); !like(k, before) {
		t.Error("a node is written into")
	}
}

// spoil makes all Kids others.
func spoil(n api.Node) {
	for i := range n.Kids {
		spoil(n.Kids[i])
		n.Kids[i] = api.Node{Op: "spoilt"}
	}
}

// grow writes behind each list of Kids.
func grow(n api.Node) {
	_ = append(n.Kids, api.Node{Op: "spoilt"}, api.Node{Op: "spoilt"}, api.Node{Op: "spoilt"})
	for _, k := range n.Kids {
		grow(k)
	}
}

// P9.1, P1: with 2^16 parts nested in one another, and with long texts, all calls end.
func TestLong(t *testing.T) {
	const n = 1 << 16
	is(t, times("(", n)+"a"+times(")", n), a)
	wrong(t, times("(", n), n, api.ErrSyntax)
	for _, s := range []string{times("-", n-1) + "a", times("not ", n-1) + "a", "a" + times(" + b", n-1), "a" + times(" or b", n-1), times("(b - ", n-1) + "a" + times(")", n-1), times("(", n-1) + "a" + times(" is null)", n-1)} {
		wrong(t, s, 0, api.ErrDeep)
		l := words(t, s)
		node, at, e := expr.Read(l, 0)
		if at != len(l) || e != api.OK || expr.Deep(node) != n || !expr.Same(node, node) {
			t.Errorf("Read(%q): %d, %d, deep %d", cut(s), at, e, expr.Deep(node))
		}
		m, at, e := expr.Read(words(t, expr.Show(node)), 0)
		if e != api.OK || at == 0 || !expr.Same(m, node) {
			t.Errorf("Read of the text of %q: %d, %d", cut(s), at, e)
		}
	}
	node := api.Node{Op: "no Op"}
	for range n - 1 {
		node = of("not", node)
	}
	shown(t, node, times("not ", n-1)+"?")
}
