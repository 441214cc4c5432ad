package expr_test

import (
	"slices"
	"testing"

	"instar/api"
	"instar/expr"
	"instar/lex"
)

// The oracle takes words apart from outside in, where package expr reads them from left to right.

// oracle is the node that all these words are, by the document's grammar.
func oracle(l []lex.Word) (api.Node, bool) {
	return parted(l, []string{"or"}, func(l []lex.Word) (api.Node, bool) {
		return parted(l, []string{"and"}, oracleNot)
	})
}

// parted is words with one of these marks or names between them, or a part without them.
func parted(l []lex.Word, between []string, part func([]lex.Word) (api.Node, bool)) (api.Node, bool) {
	i := last(l, between)
	if i < 0 {
		return part(l)
	}
	left, ok := parted(l[:i], between, part)
	right, also := part(l[i+1:])
	return of(l[i].Text, left, right), ok && also
}

// last is the last place of one of these marks or names, in no brackets and with something to end ahead of it; -1, if there is none.
func last(l []lex.Word, between []string) int {
	at, open := -1, 0
	for i, w := range l {
		switch {
		case mark(w, "("):
			open++
		case mark(w, ")"):
			open--
		case open == 0 && i > 0 && ends(l[i-1]) && w.Kind != lex.Quote && slices.Contains(between, w.Text):
			at = i
		}
	}
	return at
}

func mark(w lex.Word, text string) bool { return w.Kind == lex.Mark && w.Text == text }
func name(w lex.Word, text string) bool { return w.Kind == lex.Name && w.Text == text }

// ends tells whether an expression may end with this word.
func ends(w lex.Word) bool {
	switch w.Kind {
	case lex.Mark:
		return w.Text == ")"
	case lex.Name:
		return !lex.Own(w.Text) || slices.Contains(truths, w.Text)
	}
	return true
}

func oracleNot(l []lex.Word) (api.Node, bool) {
	if len(l) > 0 && name(l[0], "not") {
		n, ok := oracleNot(l[1:])
		return of("not", n), ok
	}
	if n := len(l); n > 2 && name(l[n-2], "is") && name(l[n-1], "null") {
		k, ok := oracleSum(l[:n-2])
		return of("is null", k), ok
	}
	i := last(l, tests)
	if i < 0 {
		return oracleSum(l)
	}
	left, ok := oracleSum(l[:i])
	right, also := oracleSum(l[i+1:])
	return of(l[i].Text, left, right), ok && also
}

func oracleSum(l []lex.Word) (api.Node, bool) {
	return parted(l, []string{"+", "-"}, func(l []lex.Word) (api.Node, bool) {
		return parted(l, []string{"*"}, oracleSign)
	})
}

func oracleSign(l []lex.Word) (api.Node, bool) {
	n := len(l)
	switch {
	case n == 0:
		return api.Node{}, false
	case n > 1 && mark(l[0], "-"):
		k, ok := oracleSign(l[1:])
		return of("neg", k), ok
	case n > 1:
		k, ok := oracle(l[1 : n-1])
		return k, ok && mark(l[0], "(") && mark(l[n-1], ")")
	}
	w := l[0]
	switch {
	case w.Kind == lex.Figure:
		for len(w.Text) > 1 && w.Text[0] == '0' {
			w.Text = w.Text[1:]
		}
		return num(w.Text), len(w.Text) < 19 || len(w.Text) == 19 && w.Text <= "9223372036854775807"
	case w.Kind == lex.Quote:
		return text(w.Text), true
	case w.Kind == lex.Name && slices.Contains(truths, w.Text):
		return of(w.Text), true
	}
	return col(w.Text), w.Kind == lex.Name && !lex.Own(w.Text)
}

// begun tells whether an expression may begin with these words: if so, it is there with no word more, with a name, or with null, and with the brackets closed.
func begun(l []lex.Word) bool {
	open := 0
	for _, w := range l {
		if mark(w, "(") {
			open++
		} else if mark(w, ")") {
			open--
		}
	}
	if open < 0 {
		return false
	}
	closed := slices.Repeat([]lex.Word{{Kind: lex.Mark, Text: ")"}}, open)
	for _, more := range [][]lex.Word{nil, {{Kind: lex.Name, Text: "a"}}, {{Kind: lex.Name, Text: "null"}}} {
		if _, ok := oracle(slices.Concat(l, more, closed)); ok {
			return true
		}
	}
	return false
}

// longest is how many of these words an expression may begin with.
func longest(l []lex.Word) int {
	n := 0
	for n < len(l) && begun(l[:n+1]) {
		n++
	}
	return n
}

// deep is how deep a node is nested, counted level by level.
func deep(n api.Node) int {
	depth := 0
	for level := []api.Node{n}; len(level) > 0; depth++ {
		var next []api.Node
		for _, k := range level {
			next = append(next, k.Kids...)
		}
		level = next
	}
	return depth
}

// held holds what Read and Parse answer of a text's words against the oracle.
func held(t *testing.T, s string, l []lex.Word) {
	t.Helper()
	n, at := longest(l), 0
	want, whole := oracle(l[:n])
	node, behind, e := expr.Read(l, 0)
	if whole && (e != api.OK || behind != n || !like(node, want)) || !whole && (e != api.ErrSyntax || behind != n || !like(node, api.Node{})) {
		t.Fatalf("Read(%q, 0): %v, %d, %d, not %v, %d, %v", s, node, behind, e, want, n, whole)
	}
	fault := api.OK
	switch {
	case n < len(l):
		at, fault = l[n].At, api.ErrSyntax
	case !whole:
		at, fault = len(s), api.ErrSyntax
	case deep(want) > 16:
		fault = api.ErrDeep
	}
	if fault != api.OK {
		want = api.Node{}
	}
	if node, place, e := expr.Parse(s); e != fault || place != at || !like(node, want) {
		t.Fatalf("Parse(%q): %v, %d, %d, not %v, %d, %d", s, node, place, e, want, at, fault)
	}
}

// all holds all texts of at most n of these words, but such as go wrong ahead of their last one.
func all(t *testing.T, s string, n int, parts []string) {
	l, _, _ := lex.Words(s)
	held(t, s, l)
	if n == 0 || len(l) > 0 && longest(l) < len(l) {
		return
	}
	for _, p := range parts {
		all(t, s+p+" ", n-1, parts)
	}
}

// P9.1, E1: Read and Parse, held against the document's grammar over all short lists of some words.
func TestExact(t *testing.T) {
	for _, k := range []struct {
		n     int
		parts []string
	}{
		{5, []string{"a", "007", "'+'", "null", "true", "and", "or", "not", "is", "(", ")", ",", "=", "<=", "+", "-", "*", "9223372036854775808"}},
		{8, []string{"a", "(", ")", "-", "*"}},
		{7, []string{"a", "not", "is", "null", "=", "or"}},
		{7, []string{"b", "and", "or", "not", "(", ")"}},
		{7, []string{"1", "+", "-", "*", "<", "not"}},
		{8, []string{"null", "is", "=", "and"}},
	} {
		all(t, "", k.n, k.parts)
	}
}

// P9.1, E1: the same of longer lists of words that hang on a simple rule, with a fault now and then.
func TestExactLonger(t *testing.T) {
	parts := []string{"a", "b", "1", "'x'", "null", "+", "-", "*", "=", "<>", "<", "<=", ">", ">=", "and", "or", "not", "is null", "(", ")", "-", "+"}
	u := uint64(7)
	next := func(n int) int {
		u = u*6364136223846793005 + 1442695040888963407
		return int(u>>33) % n
	}
	whole := 0
	for range 3000 {
		s := ""
		for range next(40) {
			p := parts[next(len(parts))]
			// Most words that could not stand there are left away: else all would go wrong at once.
			if l, _, _ := lex.Words(s + p); next(40) == 0 || longest(l) == len(l) {
				s += p + " "
			}
		}
		l, _, _ := lex.Words(s)
		held(t, s, l)
		if _, _, e := expr.Parse(s); e == api.OK {
			whole++
		}
	}
	if whole < 300 {
		t.Errorf("only %d texts are expressions", whole)
	}
}
