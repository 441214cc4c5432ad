package ddl_test

import (
	"slices"
	"strings"
	"testing"

	"instar/api"
	"instar/ddl"
	"instar/expr"
	"instar/lex"
	"instar/query"
)

// The oracle follows all ways at once, in which the document's rules may go on from word to word, where package ddl goes one; and it makes nodes by the places of words.

// grammar is the document's, of chapters 11, 10 and 9: a rule a line, a name with a great letter at its head being a rule's, or a kind of words; the first rule of each name holds none of its own.
const grammar = `
Start Statement
Statement create table Name ( Columns )
Statement drop table Name
Statement alter Name add Name Kind
Statement alter Name add Name Kind = Literal
Statement alter Name drop Name
Statement alter Name rename Name to Name
Statement alter Name widen Name to Kind
Statement split Name to Name , Name where Or
Statement merge Name , Name to Name
Statement create view Name = Query
Statement redefine view Name = Query
Statement drop view Name
Columns Name Kind
Columns Columns , Name Kind
Kind bool
Kind int32
Kind int64
Kind text
Literal Figure
Literal - Figure
Literal Quote
Literal true
Literal false
Literal null
Query Name
Query filter ( Query , Or )
Query project ( Query Items )
Query join ( Query , Query Ons )
Query union ( Query Queries )
Query distinct ( Query )
Query group ( Query Aggs )
Query group ( Query , by Names Aggs )
Queries , Query
Queries Queries , Query
Items , Name = Or
Items Items , Name = Or
Ons , Name = Name
Ons Ons , Name = Name
Names Name
Names Names Name
Aggs , Name = Agg
Aggs Aggs , Name = Agg
Agg count ( )
Agg sum ( Name )
Agg min ( Name )
Agg max ( Name )
Or And
Or Or or And
And Not
And And and Not
Not Test
Not not Not
Test Sum
Test Sum = Sum
Test Sum <> Sum
Test Sum < Sum
Test Sum <= Sum
Test Sum > Sum
Test Sum >= Sum
Test Sum is null
Sum Times
Sum Sum + Times
Sum Sum - Times
Times Sign
Times Times * Sign
Sign Name
Sign Figure
Sign Quote
Sign true
Sign false
Sign null
Sign - Sign
Sign ( Or )
`

// rules are the grammar's, each a name and what it is of; of are the numbers of each name's.
type rules struct {
	l  [][]string
	of map[string][]int
}

func document() rules {
	r := rules{of: map[string][]int{}}
	for _, s := range strings.Split(strings.TrimSpace(grammar), "\n") {
		f := strings.Fields(s)
		r.of[f[0]] = append(r.of[f[0]], len(r.l))
		r.l = append(r.l, f)
	}
	return r
}

// state is a rule, how much of it was read, and behind how many words it was begun.
type state struct{ rule, read, from int }

// chart is, behind each word, how the rules may stand.
type chart [][]state

// next is what a rule asks for; empty at its end.
func (r rules) next(s state) string {
	if s.read+1 == len(r.l[s.rule]) {
		return ""
	}
	return r.l[s.rule][s.read+1]
}

// close puts to the last states all that they begin, and end.
func (r rules) close(c chart) chart {
	here := len(c) - 1
	put := func(s state) {
		if !slices.Contains(c[here], s) {
			c[here] = append(c[here], s)
		}
	}
	for i := 0; i < len(c[here]); i++ {
		s := c[here][i]
		if ask := r.next(s); ask != "" {
			for _, k := range r.of[ask] {
				put(state{k, 0, here})
			}
			continue
		}
		for _, o := range c[s.from] {
			if r.next(o) == r.l[s.rule][0] {
				put(state{o.rule, o.read + 1, o.from})
			}
		}
	}
	return c
}

// begun is the chart of no words.
func (r rules) begun() chart { return r.close(chart{{{}}}) }

// step is the chart with a word more; without states behind it, if none goes on so.
func (r rules) step(c chart, w lex.Word) chart {
	var l []state
	for _, s := range c[len(c)-1] {
		if asked(r.next(s), w) {
			l = append(l, state{s.rule, s.read + 1, s.from})
		}
	}
	return r.close(append(slices.Clip(c), l))
}

// whole tells whether the words of a chart are a statement.
func (r rules) whole(c chart) bool { return slices.Contains(c[len(c)-1], state{0, 1, 0}) }

// asked tells whether a word is what a rule asks for.
func asked(ask string, w lex.Word) bool {
	switch ask {
	case "Name":
		return w.Kind == lex.Name && !slices.Contains(own, w.Text)
	case "Figure":
		return w.Kind == lex.Figure && (len(w.Text) < 19 || w.Text <= "9223372036854775807")
	case "Quote":
		return w.Kind == lex.Quote
	}
	return w.Text == ask && (w.Kind == lex.Name || w.Kind == lex.Mark)
}

// oracle is the node of words that are a statement.
func oracle(l []lex.Word) api.Node {
	at := func(i int) string { return l[i].Text }
	of := func(op string, name int, kids ...api.Node) api.Node { return named(op, at(name), kids...) }
	switch first := at(0) + " " + at(1); first {
	case "create table":
		n := of(first, 2)
		for i := 4; i < len(l); i += 3 {
			n.Kids = append(n.Kids, column(at(i), at(i+1)))
		}
		return n
	case "drop table", "drop view":
		return of(first, 2)
	case "create view", "redefine view":
		q, _, _ := query.Read(l, 4)
		return of(first, 2, q)
	}
	switch at(0) {
	case "split":
		n, _, _ := expr.Read(l, 7)
		return of("split", 1, from(at(3)), from(at(5)), n)
	case "merge":
		return of("merge", 5, from(at(1)), from(at(3)))
	}
	switch at(2) {
	case "add":
		n := null
		if len(l) > 5 {
			n, _, _ = expr.Read(l, 6)
		}
		return of("add", 1, column(at(3), at(4)), n)
	case "rename":
		return of("rename", 1, col(at(3)), col(at(5)))
	case "widen":
		return of("widen", 1, col(at(3)), kind(at(5)))
	}
	return of("drop", 1, col(at(3)))
}

// held holds what Parse answers of a text's words against the oracle: c is the chart of the first n words, behind which the next one, if there is one, goes wrong.
func held(t *testing.T, r rules, s string, l []lex.Word, c chart) {
	t.Helper()
	n, at, fault := len(c)-1, 0, api.OK
	want := api.Node{}
	if r.whole(c) {
		want = oracle(l[:n])
	}
	switch {
	case n < len(l):
		at, fault = l[n].At, api.ErrSyntax
	case !r.whole(c):
		at, fault = len(s), api.ErrSyntax
	case expr.Deep(want) > 16:
		fault = api.ErrDeep
	}
	if fault != api.OK {
		want = api.Node{}
	}
	if node, place, e := ddl.Parse(s); e != fault || place != at || !expr.Same(node, want) {
		t.Fatalf("Parse(%q): %v, %d, %d, not %v, %d, %d", s, node, place, e, want, at, fault)
	}
	if fault != api.OK {
		return
	}
	// P11.2: the text has that node, too.
	if back, _, e := ddl.Parse(ddl.Show(want)); e != api.OK || !expr.Same(back, want) {
		t.Fatalf("Show(%v): %q", want, ddl.Show(want))
	}
}

// all holds all texts of at most n of these words, behind those of s, but such as go wrong ahead of their last one; it answers how many statements are among them.
func all(t *testing.T, r rules, s string, c chart, n int, words []string) int {
	l, _, _ := lex.Words(s)
	held(t, r, s, l, c)
	whole := 0
	if r.whole(c) {
		whole++
	}
	if len(l) == n {
		return whole
	}
	for _, p := range words {
		with := s + p + " "
		l, _, _ = lex.Words(with)
		if more := r.step(c, l[len(l)-1]); len(more[len(l)]) > 0 {
			whole += all(t, r, with, more, n, words)
		} else {
			held(t, r, with, l, c)
		}
	}
	return whole
}

// P11.1, D1: Parse, held against the document's grammar over all short lists of some words.
func TestExact(t *testing.T) {
	r := document()
	for _, k := range []struct {
		n, least int
		words    []string
	}{
		{12, 50, []string{"create", "table", "(", ")", ",", "bool", "text"}},
		{8, 50, []string{"create", "redefine", "view", "=", "distinct", "(", ")", "t", "null"}},
		{4, 20, slices.Concat(ours, kinds, []string{"t", "null", "'drop'", "1", "="})},
		{8, 112, []string{"alter", "add", "drop", "bool", "=", "-", "1", "'x'", "true", "null"}},
		{6, 441, []string{"alter", "rename", "widen", "to", "a", "int32", "int64", "null", "1"}},
		{9, 100, []string{"split", "to", ",", "where", "not", "1"}},
		{8, 8, []string{"merge", "to", ",", "null", "'to'"}},
		{10, 5, []string{"create", "view", "=", "filter", "(", ")", ",", "not", "1"}},
	} {
		if n := all(t, r, "", r.begun(), k.n, k.words); n < k.least {
			t.Errorf("only %d statements of %d words of %v", n, k.n, k.words)
		} else {
			t.Logf("%d statements of %d words of %v", n, k.n, k.words)
		}
	}
}

// chance answers numbers from 0 on below n, by a simple rule.
func chance() func(n int) int {
	u := uint64(10)
	return func(n int) int {
		u = u*6364136223846793005 + 1442695040888963407
		return int(u>>33) % n
	}
}

// made is the words of a rule's name that chance gives; the deeper, the sooner it ends.
func made(r rules, name string, deep int, next func(int) int) []string {
	l := r.of[name]
	switch {
	case name == "Name":
		return []string{slices.Concat([]string{"a", "b", "t", "by"}, ours, kinds)[next(21)]}
	case name == "Figure":
		return []string{[]string{"0", "007", "12"}[next(3)]}
	case name == "Quote":
		return []string{[]string{"''", "','", "'it''s'"}[next(3)]}
	case l == nil:
		return []string{name}
	}
	k := l[next(len(l))]
	if next(18) < deep {
		k = l[0]
	}
	var all []string
	for _, s := range r.l[k][1:] {
		all = append(all, made(r, s, deep+1, next)...)
	}
	return all
}

// joined is a text of words.
func joined(l []string) string { return strings.Join(l, " ") }

// P11.1, D1: the same of longer texts that follow the grammar, and of these with a word more, a word less, or another one.
func TestExactLonger(t *testing.T) {
	r := document()
	next := chance()
	some := slices.Concat(ours, kinds, own, []string{"(", ")", ",", "=", "<", "-", "by", "a", "7", "'to'", "','", "'('", "9223372036854775808", "distinct", "filter"})
	whole := map[string]int{}
	for range 6000 {
		l := made(r, "Statement", 0, next)
		for range next(3) {
			i := next(len(l))
			switch more := some[next(len(some)):][:1]; next(3) {
			case 0:
				l = slices.Insert(slices.Clone(l), i, more...)
			case 1:
				l = slices.Concat(l[:i], more, l[i+1:])
			case 2:
				l = slices.Concat(l[:i], l[min(i+1, len(l)-1):])
			}
		}
		s := strings.Join(l, " ")
		words, _, _ := lex.Words(s)
		c := r.begun()
		for _, w := range words {
			more := r.step(c, w)
			if len(more[len(more)-1]) == 0 {
				break
			}
			c = more
		}
		held(t, r, s, words, c)
		if n, _, e := ddl.Parse(s); e == api.OK {
			whole[n.Op]++
		}
	}
	for _, s := range []string{"create table", "drop table", "add", "drop", "rename", "widen", "split", "merge", "create view", "redefine view", "drop view"} {
		if whole[s] < 50 {
			t.Errorf("only %d of the texts are a %s", whole[s], s)
		}
	}
}
