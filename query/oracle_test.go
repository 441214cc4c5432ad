package query_test

import (
	"slices"
	"strings"
	"testing"

	"instar/api"
	"instar/expr"
	"instar/lex"
	"instar/query"
)

// The oracle follows all ways at once, in which the document's rules may go on from word to word, where package query goes one; and it makes nodes from outside in.

// grammar is the document's, of chapters 10 and 9: a rule a line, a name with a great letter at its head being a rule's, or a kind of words; the first rule of each name holds none of its own.
const grammar = `
Start Query
Query Name
Query filter ( Query , Or )
Query project ( Query Items )
Query join ( Query , Query Ons )
Query union ( Query Queries )
Query distinct ( Query )
Query group ( Query Aggs )
Query group ( Query , by Names Aggs )
Queries , Query
Queries Queries , Query
Items , Name = Or
Items Items , Name = Or
Ons , Name = Name
Ons Ons , Name = Name
Names Name
Names Names Name
Aggs , Name = Agg
Aggs Aggs , Name = Agg
Agg count ( )
Agg sum ( Name )
Agg min ( Name )
Agg max ( Name )
Or And
Or Or or And
And Not
And And and Not
Not Test
Not not Not
Test Sum
Test Sum = Sum
Test Sum <> Sum
Test Sum < Sum
Test Sum <= Sum
Test Sum > Sum
Test Sum >= Sum
Test Sum is null
Sum Times
Sum Sum + Times
Sum Sum - Times
Times Sign
Times Times * Sign
Sign Name
Sign Figure
Sign Quote
Sign true
Sign false
Sign null
Sign - Sign
Sign ( Or )
`

// rules are the grammar's, each a name and what it is of; of are the numbers of each name's.
type rules struct {
	l  [][]string
	of map[string][]int
}

func document() rules {
	r := rules{of: map[string][]int{}}
	for _, s := range strings.Split(strings.TrimSpace(grammar), "\n") {
		f := strings.Fields(s)
		r.of[f[0]] = append(r.of[f[0]], len(r.l))
		r.l = append(r.l, f)
	}
	return r
}

// state is a rule, how much of it was read, and behind how many words it was begun.
type state struct{ rule, read, from int }

// chart is, behind each word, how the rules may stand.
type chart [][]state

// next is what a rule asks for; empty at its end.
func (r rules) next(s state) string {
	if s.read+1 == len(r.l[s.rule]) {
		return ""
	}
	return r.l[s.rule][s.read+1]
}

// close puts to the last states all that they begin, and end.
func (r rules) close(c chart) chart {
	here := len(c) - 1
	put := func(s state) {
		if !slices.Contains(c[here], s) {
			c[here] = append(c[here], s)
		}
	}
	for i := 0; i < len(c[here]); i++ {
		s := c[here][i]
		if ask := r.next(s); ask != "" {
			for _, k := range r.of[ask] {
				put(state{k, 0, here})
			}
			continue
		}
		for _, o := range c[s.from] {
			if r.next(o) == r.l[s.rule][0] {
				put(state{o.rule, o.read + 1, o.from})
			}
		}
	}
	return c
}

// begun is the chart of no words.
func (r rules) begun() chart { return r.close(chart{{{}}}) }

// step is the chart with a word more; without states behind it, if none goes on so.
func (r rules) step(c chart, w lex.Word) chart {
	var l []state
	for _, s := range c[len(c)-1] {
		if asked(r.next(s), w) {
			l = append(l, state{s.rule, s.read + 1, s.from})
		}
	}
	return r.close(append(slices.Clip(c), l))
}

// whole tells whether the words of a chart are a query.
func (r rules) whole(c chart) bool { return slices.Contains(c[len(c)-1], state{0, 1, 0}) }

// asked tells whether a word is what a rule asks for.
func asked(ask string, w lex.Word) bool {
	switch ask {
	case "Name":
		return w.Kind == lex.Name && !slices.Contains(own, w.Text)
	case "Figure":
		return w.Kind == lex.Figure && (len(w.Text) < 19 || w.Text <= "9223372036854775807")
	case "Quote":
		return w.Kind == lex.Quote
	}
	return w.Text == ask && (w.Kind == lex.Name || w.Kind == lex.Mark)
}

// oracle is the node of words that are a query.
func oracle(l []lex.Word) api.Node {
	if len(l) == 1 {
		return from(l[0].Text)
	}
	n := of(l[0].Text)
	for i, p := range parts(l[2 : len(l)-1]) {
		switch {
		case i == 0, n.Op == "union", n.Op == "join" && i == 1:
			n.Kids = append(n.Kids, oracle(p))
		case n.Op == "filter":
			n.Kids = append(n.Kids, expression(p))
		case n.Op == "project":
			n.Kids = append(n.Kids, item(p[0].Text, expression(p[2:])))
		case n.Op == "join":
			n.Kids = append(n.Kids, on(p[0].Text, p[2].Text))
		case p[1].Text == "=" && len(p) == 5:
			n.Kids = append(n.Kids, agg(p[0].Text, p[2].Text, ""))
		case p[1].Text == "=":
			n.Kids = append(n.Kids, agg(p[0].Text, p[2].Text, p[4].Text))
		default:
			n.Kids = append(n.Kids, by())
			for _, w := range p[1:] {
				n.Kids[1].Kids = append(n.Kids[1].Kids, col(w.Text))
			}
		}
	}
	if n.Op == "group" && n.Kids[1].Op != "by" {
		n.Kids = slices.Insert(n.Kids, 1, by())
	}
	return n
}

// expression is the node of words that are one.
func expression(l []lex.Word) api.Node {
	n, _, _ := expr.Read(l, 0)
	return n
}

// parts are what stands between the commas that are in no brackets.
func parts(l []lex.Word) [][]lex.Word {
	var all [][]lex.Word
	begin, open := 0, 0
	for i, w := range l {
		switch {
		case w.Kind != lex.Mark:
		case w.Text == "(":
			open++
		case w.Text == ")":
			open--
		case w.Text == "," && open == 0:
			all = append(all, l[begin:i])
			begin = i + 1
		}
	}
	return append(all, l[begin:])
}

// held holds what Read and Parse answer of a text's words against the oracle: c is the chart of the first n words, behind which the next one, if there is one, goes wrong.
func held(t *testing.T, r rules, s string, l []lex.Word, c chart) {
	t.Helper()
	n, at := len(c)-1, 0
	want, readFault, fault := api.Node{}, api.ErrSyntax, api.OK
	if r.whole(c) {
		want, readFault = oracle(l[:n]), api.OK
	}
	if node, behind, e := query.Read(l, 0); e != readFault || behind != n || !expr.Same(node, want) {
		t.Fatalf("Read(%q, 0): %v, %d, %d, not %v, %d, %d", s, node, behind, e, want, n, readFault)
	}
	switch {
	case n < len(l):
		at, fault = l[n].At, api.ErrSyntax
	case !r.whole(c):
		at, fault = len(s), api.ErrSyntax
	case expr.Deep(want) > 16:
		fault = api.ErrDeep
	}
	if fault != api.OK {
		want = api.Node{}
	}
	if node, place, e := query.Parse(s); e != fault || place != at || !expr.Same(node, want) {
		t.Fatalf("Parse(%q): %v, %d, %d, not %v, %d, %d", s, node, place, e, want, at, fault)
	}
}

// all holds all texts of at most n of these words, but such as go wrong ahead of their last one; it answers how many queries are among them.
func all(t *testing.T, r rules, s string, c chart, n int, words []string) int {
	l, _, _ := lex.Words(s)
	held(t, r, s, l, c)
	whole := 0
	if r.whole(c) {
		whole++
	}
	if len(l) == n {
		return whole
	}
	for _, p := range words {
		with := s + p + " "
		l, _, _ = lex.Words(with)
		if more := r.step(c, l[len(l)-1]); len(more[len(l)]) > 0 {
			whole += all(t, r, with, more, n, words)
		} else {
			held(t, r, with, l, c)
		}
	}
	return whole
}

// P10.1, Q1: Read and Parse, held against the document's grammar over all short lists of some words.
func TestExact(t *testing.T) {
	r := document()
	for _, k := range []struct {
		n, least int
		words    []string
	}{
		{12, 20, []string{"filter", "(", ")", ",", "t"}},
		{9, 50, []string{"filter", "(", ")", ",", "=", "not", "null", "1", "'x'"}},
		{13, 100, []string{"project", "(", ")", ",", "=", "a"}},
		{14, 50, []string{"join", "(", ")", ",", "=", "a"}},
		{13, 100, []string{"union", "distinct", "(", ")", ",", "t"}},
		{13, 30, []string{"group", "(", ")", ",", "=", "by", "count"}},
		{12, 10, []string{"group", "(", ")", ",", "=", "by", "sum", "null", "'by'"}},
		{11, 10, []string{"group", "distinct", "(", ")", ",", "=", "min", "max", "1"}},
		{6, 10, []string{"filter", "project", "join", "union", "distinct", "group", "(", ")", ",", "=", "by", "count", "sum", "t", "not", "null", "-", "'t'", "9223372036854775808"}},
	} {
		if n := all(t, r, "", r.begun(), k.n, k.words); n < k.least {
			t.Errorf("only %d queries of %d words of %v", n, k.n, k.words)
		} else {
			t.Logf("%d queries of %d words of %v", n, k.n, k.words)
		}
	}
}

// chance answers numbers from 0 on below n, by a simple rule.
func chance() func(n int) int {
	u := uint64(10)
	return func(n int) int {
		u = u*6364136223846793005 + 1442695040888963407
		return int(u>>33) % n
	}
}

// made is the words of a rule's name that chance gives; the deeper, the sooner it ends.
func made(r rules, name string, deep int, next func(int) int) []string {
	l := r.of[name]
	switch {
	case name == "Name":
		return []string{slices.Concat([]string{"a", "b", "t", "by"}, forms, calls)[next(14)]}
	case name == "Figure":
		return []string{[]string{"0", "007", "12"}[next(3)]}
	case name == "Quote":
		return []string{[]string{"''", "','", "'it''s'"}[next(3)]}
	case l == nil:
		return []string{name}
	}
	k := l[next(len(l))]
	if next(18) < deep {
		k = l[0]
	}
	var all []string
	for _, s := range r.l[k][1:] {
		all = append(all, made(r, s, deep+1, next)...)
	}
	return all
}

// joined is a text of words.
func joined(l []string) string { return strings.Join(l, " ") }

// P10.1, Q1: the same of longer texts that follow the grammar, and of these with a word more, a word less, or another one.
func TestExactLonger(t *testing.T) {
	r := document()
	next := chance()
	some := slices.Concat(forms, calls, own, []string{"(", ")", ",", "=", "<", "-", "by", "a", "7", "'by'", "','", "'('", "9223372036854775808"})
	whole := map[string]int{}
	for range 4000 {
		l := made(r, "Query", 0, next)
		for range next(3) {
			i := next(len(l))
			switch more := some[next(len(some)):][:1]; next(3) {
			case 0:
				l = slices.Insert(slices.Clone(l), i, more...)
			case 1:
				l = slices.Concat(l[:i], more, l[i+1:])
			case 2:
				l = slices.Concat(l[:i], l[min(i+1, len(l)-1):])
			}
		}
		s := joined(l)
		words, _, _ := lex.Words(s)
		c := r.begun()
		for _, w := range words {
			more := r.step(c, w)
			if len(more[len(more)-1]) == 0 {
				break
			}
			c = more
		}
		held(t, r, s, words, c)
		if n, _, e := query.Parse(s); e == api.OK {
			whole[n.Op]++
		}
	}
	for _, s := range append([]string{"from"}, forms...) {
		if whole[s] < 50 {
			t.Errorf("only %d of the texts are a %s", whole[s], s)
		}
	}
}
