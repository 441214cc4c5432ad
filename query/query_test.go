package query_test

import (
	"math"
	"slices"
	"strings"
	"testing"

	"instar/api"
	"instar/expr"
	"instar/lex"
	"instar/query"
)

// Short forms of nodes, and of texts.
func of(op string, kids ...api.Node) api.Node { return api.Node{Op: op, Kids: kids} }
func named(op, text string, kids ...api.Node) api.Node {
	return api.Node{Op: op, Text: text, Kids: kids}
}
func from(s string) api.Node             { return named("from", s) }
func col(s string) api.Node              { return named("col", s) }
func item(s string, n api.Node) api.Node { return named("item", s, n) }
func on(s, with string) api.Node         { return named("on", s, col(with)) }
func agg(s, fn, column string) api.Node  { return named("agg", s, named(fn, column)) }
func filter(q, n api.Node) api.Node      { return of("filter", q, n) }
func project(q api.Node, l ...api.Node) api.Node {
	return of("project", append([]api.Node{q}, l...)...)
}
func join(q, p api.Node, l ...api.Node) api.Node {
	return of("join", append([]api.Node{q, p}, l...)...)
}
func union(l ...api.Node) api.Node { return of("union", l...) }
func distinct(q api.Node) api.Node { return of("distinct", q) }
func group(q, by api.Node, l ...api.Node) api.Node {
	return of("group", append([]api.Node{q, by}, l...)...)
}
func by(names ...string) api.Node {
	n := of("by")
	for _, s := range names {
		n.Kids = append(n.Kids, col(s))
	}
	return n
}
func times(s string, n int) string { return strings.Repeat(s, n) }

// Tables, columns and numbers that stand in many of the queries below.
var (
	t0, u0 = from("t"), from("u")
	a, b   = col("a"), col("b")
	one    = named("num", "1")
	count  = agg("n", "count", "")
)

// The words that have brackets behind them in a query, those of an Agg, and the language's own names (8).
var (
	forms = []string{"filter", "project", "join", "union", "distinct", "group"}
	calls = []string{"count", "sum", "min", "max"}
	own   = []string{"true", "false", "null", "and", "or", "not", "is"}
)

// sample is a query's text, as Show tells it, and its node.
type sample struct {
	text string
	node api.Node
}

// samples are queries of each form.
func samples() []sample {
	return []sample{
		{"t", t0},
		{"filter(t, a < 1)", filter(t0, of("<", a, one))},
		{"project(t, a = b + 1)", project(t0, item("a", of("+", b, one)))},
		{"project(t, a = a, b = 'x', c = not a or b)", project(t0, item("a", a), item("b", named("text", "x")), item("c", of("or", of("not", a), b)))},
		{"join(t, u, a = b)", join(t0, u0, on("a", "b"))},
		{"join(t, u, a = b, c = d, a = a)", join(t0, u0, on("a", "b"), on("c", "d"), on("a", "a"))},
		{"union(t, u)", union(t0, u0)},
		{"union(t, u, t, t)", union(t0, u0, t0, t0)},
		{"distinct(t)", distinct(t0)},
		{"group(t, n = count())", group(t0, by(), count)},
		{"group(t, by a, n = count())", group(t0, by("a"), count)},
		{"group(t, by a b a, n = count(), s = sum(a), l = min(b), m = max(by))", group(t0, by("a", "b", "a"), count, agg("s", "sum", "a"), agg("l", "min", "b"), agg("m", "max", "by"))},
		{"group(t, s = sum(a), n = count())", group(t0, by(), agg("s", "sum", "a"), count)},
		{"filter(distinct(union(t, u)), a is null)", filter(distinct(union(t0, u0)), of("is null", a))},
		{"join(filter(t, a), project(u, b = 1), a = b)", join(filter(t0, a), project(u0, item("b", one)), on("a", "b"))},
		{"group(join(t, distinct(u), a = b), by a, n = count())", group(join(t0, distinct(u0), on("a", "b")), by("a"), count)},
		{"union(group(t, n = count()), project(group(u, by b, m = max(a)), n = m))", union(group(t0, by(), count), project(group(u0, by("b"), agg("m", "max", "a")), item("n", col("m"))))},
	}
}

// cut is a text that is short enough to be told.
func cut(s string) string { return s[:min(len(s), 200)] }

// words are a text's.
func words(t *testing.T, s string) []lex.Word {
	t.Helper()
	l, at, e := lex.Words(s)
	if e != api.OK {
		t.Fatalf("Words(%q): %d, %d", cut(s), at, e)
	}
	return l
}

// is holds a text's node against the one that it should have, and what is read of the text's words, too.
func is(t *testing.T, s string, want api.Node) {
	t.Helper()
	if n, at, e := query.Parse(s); !expr.Same(n, want) || at != 0 || e != api.OK {
		t.Errorf("Parse(%q): %v, %d, %d, not %v", cut(s), n, at, e, want)
	}
	l := words(t, s)
	if n, at, e := query.Read(l, 0); !expr.Same(n, want) || at != len(l) || e != api.OK {
		t.Errorf("Read(%q, 0): %v, %d, %d, not %v", cut(s), n, at, e, want)
	}
}

// wrong holds the place, and the error, of a text's fault against those that it should have.
func wrong(t *testing.T, s string, place int, want api.Errno) {
	t.Helper()
	if n, at, e := query.Parse(s); !expr.Same(n, api.Node{}) || at != place || e != want {
		t.Errorf("Parse(%q): %v, %d, %d, not %d at %d", cut(s), n, at, e, want, place)
	}
}

// reads holds what is read of words, from a place on, against what should be.
func reads(t *testing.T, l []lex.Word, at int, want api.Node, behind int) {
	t.Helper()
	if n, k, e := query.Read(l, at); !expr.Same(n, want) || k != behind || e != api.OK {
		t.Errorf("Read(%q, %d): %v, %d, %d, not %v, %d", cut(lex.Text(l...)), at, n, k, e, want, behind)
	}
}

// halts holds the number of the word, where reading goes wrong, against that which it should have.
func halts(t *testing.T, l []lex.Word, at, place int) {
	t.Helper()
	if n, k, e := query.Read(l, at); !expr.Same(n, api.Node{}) || k != place || e != api.ErrSyntax {
		t.Errorf("Read(%q, %d): %v, %d, %d, not ErrSyntax at %d", cut(lex.Text(l...)), at, n, k, e, place)
	}
}

// P10.1, Q1: the node of a query of each form, read from words as Show tells them, and as closely and as widely as they may stand.
func TestForms(t *testing.T) {
	for _, s := range samples() {
		is(t, s.text, s.node)
		is(t, "\n "+s.text+"\t ", s.node)
		is(t, strings.NewReplacer(", ", ",", " = ", "=", " < ", "<", " + ", "+").Replace(s.text), s.node)
		is(t, strings.NewReplacer("(", " (\n", ")", "\t)", ",", " , ").Replace(s.text), s.node)
	}
	is(t, "x_1", from("x_1"))
	is(t, times("z", 20), from(times("z", 20)))
	is(t, "filter(t, (a - (1)) = ((b)))", filter(t0, of("=", of("-", a, one), b)))
	is(t, "project(t, a = b = 1)", project(t0, item("a", of("=", b, one))))
	is(t, "project(t, a = ((b)), c = 001)", project(t0, item("a", b), item("c", one)))
	is(t, "filter(t, ',')", filter(t0, named("text", ",")))
	is(t, "filter(t, ')')", filter(t0, named("text", ")")))
	// The same name may stand twice: that is for other layers to say.
	is(t, "project(t, a = a, a = b)", project(t0, item("a", a), item("a", b)))
	is(t, "group(t, by a a, a = count(), a = sum(a))", group(t0, by("a", "a"), agg("a", "count", ""), agg("a", "sum", "a")))
}

// P10.1, Q1: Parse of no words, of words that end too early after each word of each form, and of a word more than there may be.
func TestEnds(t *testing.T) {
	for s, at := range map[string]int{"": 0, " ": 1, "\n\t ": 3} {
		wrong(t, s, at, api.ErrSyntax)
	}
	for _, s := range samples() {
		l := words(t, s.text)
		// A query's first word alone is a table's name, so it goes too early from the bracket on.
		for n := 2; n < len(l); n++ {
			early := s.text[:l[n].At]
			wrong(t, early, len(early), api.ErrSyntax)
			wrong(t, strings.TrimSpace(early), len(strings.TrimSpace(early)), api.ErrSyntax)
			halts(t, l[:n], 0, n)
			halts(t, slices.Clone(l[:n]), 0, n)
			halts(t, append(words(t, "x = ("), l[:n]...), 3, n+3)
		}
		for _, more := range []string{"t", ",", "(", ")", "=", "1", "'x'", "null", "by", "and", "+", "filter", "(u)"} {
			wrong(t, s.text+" "+more, len(s.text)+1, api.ErrSyntax)
			reads(t, append(slices.Clone(l), words(t, more)...), 0, s.node, len(l))
		}
		// It is not known of a word more, when one goes wrong ahead of it.
		wrong(t, "filter("+s.text+")", len(s.text)+7, api.ErrSyntax)
		wrong(t, "distinct("+s.text+", a)", len(s.text)+9, api.ErrSyntax)
	}
}

// P10.1, Q1: Read begins at the word that it is told, and answers the number of the one behind.
func TestRead(t *testing.T) {
	for _, s := range samples() {
		l := words(t, s.text)
		for _, ahead := range []string{"", "x", "create view v =", "distinct (", ") ) 1"} {
			for _, behind := range []string{"", ")", ", a = b", "t", "where a", "= 1"} {
				k := len(words(t, ahead))
				reads(t, slices.Concat(words(t, ahead), l, words(t, behind)), k, s.node, k+len(l))
			}
		}
	}
	l := words(t, "union(t, filter(u, a = 1), distinct(t))")
	reads(t, l, 2, t0, 3)
	reads(t, l, 4, filter(u0, of("=", a, one)), 12)
	reads(t, l, 6, u0, 7)
	reads(t, l, 8, from("a"), 9)
	reads(t, l, 13, distinct(t0), 17)
	halts(t, l, 1, 1)
	halts(t, l, 3, 3)
	halts(t, l, 9, 9)
	halts(t, l, 10, 10)
	halts(t, l[:16], 13, 16)
}

// P10.1, Q1: a place before the first word, and behind the last one, is told as it is.
func TestNoSuchWord(t *testing.T) {
	for _, s := range []string{"", "t", "filter(t, a)", "union(t,", ", ("} {
		l := words(t, s)
		for _, at := range []int{-1, -2, math.MinInt, len(l), len(l) + 1, len(l) + 100, math.MaxInt, math.MaxInt - 1} {
			halts(t, l, at, at)
			// What lies behind the list's length is none of its words.
			halts(t, append(l, words(t, "t t t t")...)[:len(l)], at, at)
		}
	}
	halts(t, nil, 0, 0)
	halts(t, words(t, "distinct(t)")[:3], 0, 3)
	reads(t, words(t, "distinct(t)")[:1], 0, from("distinct"), 1)
}

// places are texts with a name to be put in where the # stands.
func places() []string {
	return []string{
		"#", "filter(#, a)", "project(#, a = 1)", "project(t, # = 1)", "project(t, a = 1, # = b)", "join(#, u, a = b)", "join(t, #, a = b)", "join(t, u, # = b)", "join(t, u, a = #)", "join(t, u, a = b, # = d)", "join(t, u, a = b, c = #)",
		"union(#, u)", "union(t, #)", "union(t, u, #)", "distinct(#)", "group(#, n = count())", "group(t, by #, n = count())", "group(t, by a #, n = count())", "group(t, by a b #, n = count())", "group(t, # = count())", "group(t, by a, # = count())", "group(t, n = count(), # = sum(a))",
		"group(t, n = sum(#))", "group(t, n = min(#))", "group(t, by a, n = count(), m = max(#))", "filter(distinct(#), a)",
	}
}

// P10.1, Q1: each of the language's own names, a figure, a quote and a mark go wrong where a name should stand; every other name may stand there.
func TestNames(t *testing.T) {
	for _, p := range places() {
		at := strings.Index(p, "#")
		number := len(words(t, p[:at]))
		for _, s := range slices.Concat(own, []string{"1", "'a'", "'by'", "'filter'", "''", "-", "+", "<=", "(", "="}) {
			if strings.HasSuffix(p[:at], "by ") && s == "=" {
				// It makes the by ahead of it an Agg's name.
				continue
			}
			with := strings.Replace(p, "#", s, 1)
			wrong(t, with, at, api.ErrSyntax)
			halts(t, words(t, with), 0, number)
			halts(t, append(words(t, ", ,"), words(t, with)...), 2, number+2)
		}
		for _, s := range slices.Concat(forms, calls, []string{"by", "x", "item", "on", "agg", "col", "from", "NULL", "Not", "nulls", "is_", "table", "view", "where", times("x", 20)}) {
			with := strings.Replace(p, "#", s, 1)
			n, k, e := query.Parse(with)
			if k != 0 || e != api.OK || query.Show(n) != with {
				t.Errorf("Parse(%q): %v, %d, %d", with, n, k, e)
			}
		}
		wrong(t, strings.Replace(p, "#", times("x", 21), 1), at, api.ErrLex)
	}
}

// P10.1, Q1: a word of the forms is a table's name, but with a bracket behind it.
func TestFormsAsNames(t *testing.T) {
	for _, s := range forms {
		is(t, s, from(s))
		is(t, "distinct("+s+")", distinct(from(s)))
		is(t, "union("+s+", "+s+")", union(from(s), from(s)))
		is(t, "filter("+s+", "+s+" = 1)", filter(from(s), of("=", col(s), one)))
		is(t, "join("+s+", "+s+", "+s+" = "+s+")", join(from(s), from(s), on(s, s)))
		is(t, "project("+s+", "+s+" = "+s+")", project(from(s), item(s, col(s))))
		is(t, "group("+s+", by "+s+", "+s+" = max("+s+"))", group(from(s), by(s), agg(s, "max", s)))
		reads(t, words(t, s+" , ( t"), 0, from(s), 1)
		wrong(t, s+"(", len(s)+1, api.ErrSyntax)
		wrong(t, s+"()", len(s)+1, api.ErrSyntax)
		wrong(t, s+" ((t))", len(s)+2, api.ErrSyntax)
		wrong(t, s+"(, t)", len(s)+1, api.ErrSyntax)
		wrong(t, s+" t", len(s)+1, api.ErrSyntax)
		halts(t, words(t, s+"("), 0, 2)
		halts(t, words(t, s+"()"), 0, 2)
		// In an expression, and where a name must be, a bracket behind it may not stand.
		wrong(t, "filter(t, "+s+"(a))", 10+len(s), api.ErrSyntax)
		wrong(t, "project(t, "+s+"(a) = 1)", 11+len(s), api.ErrSyntax)
		wrong(t, "group(t, n = "+s+"(a))", 13, api.ErrSyntax)
		// A quote, or a mark made by hand, is none of the forms.
		wrong(t, "'"+s+"'(t)", 0, api.ErrSyntax)
		halts(t, append([]lex.Word{{Kind: lex.Mark, Text: s}}, words(t, "(t)")...), 0, 0)
		reads(t, append(words(t, s), lex.Word{Kind: lex.Quote, Text: "("}), 0, from(s), 1)
	}
}

// P10.1, Q1: a name that is no form's goes wrong at the bracket behind it.
func TestNoForms(t *testing.T) {
	for _, s := range slices.Concat(calls, []string{"x", "by", "Filter", "FILTER", "filters", "filter_", "groupby", "from", "item", "on", "agg", "col", "Count", "avg", "select"}) {
		for _, behind := range []string{"(", "()", "(t)", "(t, a)", "( t , u , a = b )"} {
			wrong(t, s+behind, len(s), api.ErrSyntax)
			wrong(t, s+" "+behind, len(s)+1, api.ErrSyntax)
			reads(t, words(t, s+behind), 0, from(s), 1)
			wrong(t, "distinct("+s+behind+")", len(s)+9, api.ErrSyntax)
			halts(t, words(t, "union(t, "+s+behind), 0, 5)
		}
	}
	// One of the language's own names is none ahead of a bracket either.
	for _, s := range own {
		wrong(t, s+"(t)", 0, api.ErrSyntax)
		halts(t, words(t, "distinct("+s+"(t))"), 0, 2)
	}
}

// P10.1, Q1: the byte at which the first word stands that none could have there.
func TestPlaces(t *testing.T) {
	for s, at := range map[string]int{
		"(": 0, "(t)": 0, ")": 0, ",": 0, "=": 0, "1": 0, "'t'": 0, "-t": 0, "t t": 2, "t, u": 1, "t = u": 2, "t + u": 2, "t)": 1, "t 'x'": 2,
		"filter(t)": 8, "filter(t,)": 9, "filter(t, )": 10, "filter(t a)": 9, "filter(t = a)": 9, "filter(t, a, b)": 11, "filter(t, a b)": 12, "filter(t, a = b = c)": 16, "filter(t, a))": 12, "filter(t, (a)": 13, "filter(t,, a)": 9, "filter(t, a < )": 14, "filter(t, 9223372036854775808)": 10, "filter(t, u(a))": 11, "filter(filter(t, a), a is 1)": 26, "filter(a = 1, t)": 9, "filter(not a, t)": 7,
		"project(t)": 9, "project(t,)": 10, "project(t, a)": 12, "project(t, a =)": 14, "project(t, a = )": 15, "project(t, = a)": 11, "project(t, a b = 1)": 13, "project(t, a = 1,)": 17, "project(t, a = 1 b = 2)": 17, "project(t, a = 1, b)": 19, "project(t, a = 1, b = )": 22, "project(t, a + 1)": 13, "project(t, a == 1)": 14, "project(t, a <= 1)": 13, "project(t, u, a = 1)": 12, "project(a = 1)": 10, "project(t a = 1)": 10, "project(t, a = b = c = d)": 21, "project(t, 'a' = 1)": 11, "project(t, by a = 1)": 14,
		"join(t)": 6, "join(t,)": 7, "join(t, u)": 9, "join(t, u,)": 10, "join(t, u, a)": 12, "join(t, u, a =)": 14, "join(t, u, a = 1)": 15, "join(t, u, a = b + 1)": 17, "join(t, u, a = b c = d)": 17, "join(t, u, a = b,)": 17, "join(t, u, a = b, c)": 19, "join(t, a = b)": 10, "join(t, u, v, a = b)": 12, "join(t, u, 1 = a)": 11, "join(t, u, a < b)": 13, "join(t, u, (a = b))": 11, "join(t, u, a = (b))": 15, "join(t u, a = b)": 7,
		"union(t)": 7, "union(t,)": 8, "union(t, u,)": 11, "union(t u)": 8, "union(t, u v)": 11, "union(t, a = b)": 11, "union(t, (u))": 9, "union(union(t), u)": 13, "union(t, u = 1)": 11, "union(t, 1)": 9, "union(t, u(a))": 10, "union t": 6,
		"distinct()": 9, "distinct(t, u)": 10, "distinct(t u)": 11, "distinct(t,)": 10, "distinct(distinct(t)": 20, "distinct((t))": 9, "distinct(t = u)": 11, "distinct(t))": 11, "distinct t": 9,
		"group(t)": 7, "group(t,)": 8, "group(t, n)": 10, "group(t, n =)": 12, "group(t, n = a)": 13, "group(t, n = count)": 18, "group(t, n = count(a))": 19, "group(t, n = count(*))": 19, "group(t, n = sum())": 17, "group(t, n = sum)": 16, "group(t, n = sum(a b))": 19, "group(t, n = sum(a, b))": 18, "group(t, n = sum(1))": 17, "group(t, n = sum(a + 1))": 19, "group(t, n = sum((a)))": 17, "group(t, n = avg(a))": 13, "group(t, n = 1)": 13, "group(t, n = 'count'())": 13, "group(t, n = count(),)": 21, "group(t, n = count() m = count())": 21, "group(t, n = count(), m)": 23, "group(t, n = count() + 1)": 21, "group(t, count())": 14, "group(t n = count())": 8, "group(t, a, n = count())": 10, "group(t, a b, n = count())": 11, "group(by a, n = count())": 9, "group(t, n = (count()))": 13, "group(t, n = count(()))": 19, "group(t, n = not)": 13, "group(t, n = group(t))": 13,
	} {
		wrong(t, s, at, api.ErrSyntax)
		// Blanks ahead: the place goes along.
		wrong(t, " \t"+s+"\n", at+2+max(0, 1+at-len(s)), api.ErrSyntax)
	}
}

// P10.1, Q1: `by` as the name of an Agg, behind a by, behind an Agg, and with no name behind it.
func TestBy(t *testing.T) {
	is(t, "group(t, by = count())", group(t0, by(), agg("by", "count", "")))
	is(t, "group(t, by = sum(by))", group(t0, by(), agg("by", "sum", "by")))
	is(t, "group(t, by = sum(a), by = min(b))", group(t0, by(), agg("by", "sum", "a"), agg("by", "min", "b")))
	is(t, "group(t, by by, by = count())", group(t0, by("by"), agg("by", "count", "")))
	is(t, "group(t, by by by by, n = count())", group(t0, by("by", "by", "by"), count))
	is(t, "group(t, by a by, n = count())", group(t0, by("a", "by"), count))
	is(t, "group(t, by a, by = max(a))", group(t0, by("a"), agg("by", "max", "a")))
	is(t, "group(t, n = count(), by = max(a))", group(t0, by(), count, agg("by", "max", "a")))
	is(t, "group(by, by by, by = count())", group(from("by"), by("by"), agg("by", "count", "")))
	is(t, "group(group(t, by a, n = count()), by n, n = count())", group(group(t0, by("a"), count), by("n"), count))
	is(t, "group(t, by count sum, n = count())", group(t0, by("count", "sum"), count))
	is(t, "by", from("by"))
	is(t, "filter(by, by = 1)", filter(from("by"), of("=", col("by"), one)))
	is(t, "project(by, by = by)", project(from("by"), item("by", col("by"))))
	is(t, "join(by, by, by = by)", join(from("by"), from("by"), on("by", "by")))
	for s, at := range map[string]int{
		"group(t, by)": 11, "group(t, by": 11, "group(t, by,": 11, "group(t, by, n = count())": 11, "group(t, by a)": 13, "group(t, by a": 13, "group(t, by a,": 14, "group(t, by a,)": 14, "group(t, by a b c)": 17, "group(t, by a, b)": 16, "group(t, by a, b, n = count())": 16,
		"group(t, by a, by b, n = count())": 18, "group(t, by a, by, n = count())": 17, "group(t, by a, by)": 17, "group(t, n = count(), by a)": 25, "group(t, n = count(), by)": 24, "group(t, n = count(), by": 24, "group(t, by by = count())": 15, "group(t, by a = count())": 14, "group(t, by a b = count())": 16, "group(t, by by)": 14, "group(t, by by": 14,
		"group(t, by =)": 13, "group(t, by = a)": 14, "group(t, by = by)": 14, "group(t, by = by a, n = count())": 14, "group(t, by null, n = count())": 12, "group(t, by a null, n = count())": 14, "group(t, by 1, n = count())": 12, "group(t, by 'a', n = count())": 12, "group(t, by (a), n = count())": 12, "group(t, by a + b, n = count())": 14, "group(t, by a n = count())": 16,
		"group(t by a, n = count())": 8, "group(by a, n = count())": 9, "group(by t, by a, n = count())": 9, "group(t, 'by' a, n = count())": 9, "group(t, By a, n = count())": 12, "group(t, by a, n = by(a))": 19, "group(t, by < 1, n = count())": 12,
		"filter(t, by a)": 13, "project(t, by a, n = 1)": 14, "join(t, u, by a, a = b)": 14, "union(t, by a)": 12, "distinct(t, by a)": 10,
	} {
		wrong(t, s, at, api.ErrSyntax)
	}
	reads(t, words(t, "by a"), 0, from("by"), 1)
	halts(t, words(t, "group(t, by)"), 0, 5)
	halts(t, words(t, "group(t, by = 1)"), 0, 6)
}

// P10.1, Q1: an error of the words is ahead of one of the query, and that ahead of one that is too deep.
func TestFirst(t *testing.T) {
	deep := times("distinct(", api.MaxDeep) + "t" + times(")", api.MaxDeep)
	for s, at := range map[string]int{"filter(t ?": 9, "!": 0, ") 'b": 2, "union(t) ;": 9, "t u 'x": 4, deep + " ?": len(deep) + 1, "t " + times("x", 21): 2, "filter(t, " + times("1", 20) + ")": 10, "project(t, a = '" + times("x", 201) + "')": 15} {
		wrong(t, s, at, api.ErrLex)
	}
	wrong(t, deep, 0, api.ErrDeep)
	wrong(t, deep+")", len(deep), api.ErrSyntax)
	wrong(t, deep[:len(deep)-1], len(deep)-1, api.ErrSyntax)
	wrong(t, "union("+deep+")", len(deep)+6, api.ErrSyntax)
}

// P10.1, Q1: Parse takes what is nested 16 deep, an expression within a query counted with all that is about it; Read knows no depth.
func TestDeep(t *testing.T) {
	for _, k := range []struct {
		ahead, behind string
		more          int
	}{
		{"filter(t, ", ")", 1}, {"project(t, a = ", ")", 2}, {"project(t, b = 1, a = ", ")", 2}, {"distinct(filter(t, ", "))", 2}, {"union(t, project(t, a = ", "))", 3}, {"filter(filter(t, b), ", ")", 1},
	} {
		for n := 12; n < 20; n++ {
			// An expression that is nested n deep.
			s := k.ahead + times("not ", n-1) + "a" + k.behind
			node, at, e := query.Read(words(t, s), 0)
			if at != len(words(t, s)) || e != api.OK || expr.Deep(node) != n+k.more || query.Show(node) != s {
				t.Errorf("Read(%q, 0): %v, %d, %d", s, node, at, e)
			}
			if n+k.more > 16 {
				wrong(t, s, 0, api.ErrDeep)
			} else {
				is(t, s, node)
			}
			// Brackets do not count.
			s = k.ahead + times("(", 20) + times("not ", n-1) + "a" + times(")", 20) + k.behind
			if n+k.more > 16 {
				wrong(t, s, 0, api.ErrDeep)
			} else {
				is(t, s, node)
			}
		}
	}
	for _, k := range []struct {
		ahead, in, behind string
		deep              int
	}{
		{"distinct(", "t", ")", 1}, {"filter(", "t", ", a)", 1}, {"project(", "t", ", a = 1)", 1}, {"union(", "t", ", u)", 1}, {"union(u, ", "t", ")", 1}, {"join(", "t", ", u, a = b)", 1}, {"join(u, ", "t", ", a = b)", 1}, {"group(", "t", ", n = count())", 1}, {"group(", "t", ", by a, n = sum(a))", 1},
		{"distinct(", "filter(t, a)", ")", 2}, {"distinct(", "project(t, a = b)", ")", 3}, {"distinct(", "join(t, u, a = b)", ")", 3}, {"distinct(", "group(t, n = count())", ")", 3}, {"distinct(", "group(t, by a, n = count())", ")", 3}, {"filter(", "project(t, a = -1)", ", a)", 4},
	} {
		for n := range 20 {
			s := times(k.ahead, n) + k.in + times(k.behind, n)
			deep := n + k.deep
			if n > 0 && k.in == "t" {
				// What stands beside the deepest query may be deeper than it is.
				node, _, _ := query.Read(words(t, k.ahead+k.in+k.behind), 0)
				deep = n - 1 + expr.Deep(node)
			}
			if deep > 16 {
				wrong(t, s, 0, api.ErrDeep)
				continue
			}
			if node, at, e := query.Parse(s); at != 0 || e != api.OK || expr.Deep(node) != deep || query.Show(node) != s {
				t.Errorf("Parse(%q): %v, %d, %d", s, node, at, e)
			}
		}
	}
}

// P10.1, Q1, P1: words that no text has, made by hand, are none that could stand anywhere.
func TestNoWords(t *testing.T) {
	for _, w := range []lex.Word{
		{}, {Kind: lex.Name}, {Kind: lex.Name, Text: "1"}, {Kind: lex.Name, Text: "_a"}, {Kind: lex.Name, Text: "a b"}, {Kind: lex.Name, Text: " a"}, {Kind: lex.Name, Text: "a "}, {Kind: lex.Name, Text: times("x", 21)}, {Kind: lex.Name, Text: "+"}, {Kind: lex.Name, Text: "("}, {Kind: lex.Name, Text: "'a'"}, {Kind: lex.Name, Text: "é"}, {Kind: lex.Name, Text: "?"},
		{Kind: lex.Figure}, {Kind: lex.Figure, Text: "a"}, {Kind: lex.Figure, Text: "by"}, {Kind: lex.Quote, Text: times("x", 201)}, {Kind: lex.Mark}, {Kind: lex.Mark, Text: "a"}, {Kind: lex.Mark, Text: "by"}, {Kind: lex.Mark, Text: "count"}, {Kind: lex.Mark, Text: "()"}, {Kind: lex.Mark, Text: ", "},
		{Kind: -1, Text: "a"}, {Kind: 4, Text: "a"}, {Kind: 4, Text: "("}, {Kind: -1, Text: ")"}, {Kind: math.MaxInt, Text: ","}, {Kind: math.MinInt},
	} {
		for _, s := range samples() {
			l := words(t, s.text)
			for n := range l {
				with := slices.Concat(l[:n], []lex.Word{w}, l[n+1:])
				if n == 1 {
					// Without its bracket a form's word is a table's name.
					reads(t, with, 0, from(l[0].Text), 1)
				} else {
					halts(t, with, 0, n)
				}
			}
			reads(t, append(slices.Clone(l), w), 0, s.node, len(l))
		}
	}
}

// P10.1, Q2: Leaves are the names of all froms in a node, in order, as often as they stand, whatever the other nodes are.
func TestLeaves(t *testing.T) {
	for s, want := range map[string]string{
		"t": "t", "filter(t, u = 1)": "t", "project(t, u = v)": "t", "join(t, u, a = b)": "t u", "join(u, t, a = b)": "u t", "join(t, t, a = b)": "t t", "union(c, b, a, b, c)": "c b a b c", "distinct(t)": "t", "group(t, by a, n = count(), m = max(b))": "t",
		"join(t, filter(u, a = 1), a = b)": "t u", "union(join(a, b, c = d), e, distinct(union(f, a)))": "a b e f a", "group(filter(project(distinct(union(x, by)), a = 1), a), n = count())": "x by", "join(join(a, b, x = y), join(c, d, x = y), x = y)": "a b c d",
	} {
		n, _, e := query.Parse(s)
		if l := query.Leaves(n); !slices.Equal(l, strings.Fields(want)) || e != api.OK {
			t.Errorf("Leaves(%q): %q, not %q", s, l, want)
		}
	}
	for _, k := range []struct {
		n    api.Node
		want []string
	}{
		{api.Node{}, nil}, {a, nil}, {item("t", a), nil}, {of("union"), nil}, {of("group", by("t")), nil}, {from(""), []string{""}}, {union(from(""), t0, from("")), []string{"", "t", ""}},
		{of("", t0, of("?", u0), t0), []string{"t", "u", "t"}}, {filter(t0, of("+", u0, of("neg", t0))), []string{"t", "u", "t"}}, {named("from", "t", u0, t0), []string{"t", "u", "t"}}, {project(t0, item("a", u0)), []string{"t", "u"}}, {of("by", t0), []string{"t"}}, {named("filter", "x", u0), []string{"u"}}, {named("From", "t"), nil}, {of("from", of("from", u0)), []string{"", "", "u"}},
	} {
		if l := query.Leaves(k.n); !slices.Equal(l, k.want) {
			t.Errorf("Leaves(%v): %q, not %q", k.n, l, k.want)
		}
	}
}

// P10.1, Q1, Q2: what is handed in is neither written into nor kept, and what is answered is new memory.
func TestNothingShared(t *testing.T) {
	l, _, _ := lex.Words("union(group(join(t, u, a = b, c = d), by a b c, n = count(), m = max(a)), project(filter(t, a = 1 or b), a = 1, b = a + 1))")
	whole := slices.Clone(l)
	n, _, _ := query.Read(l, 0)
	s := query.Show(n)
	if !slices.Equal(l, whole) {
		t.Error("Read writes into words")
	}
	clear(l)
	if query.Show(n) != s || s == "?" {
		t.Errorf("Read keeps words: %v", n)
	}
	m, _, _ := query.Read(whole, 0)
	if !expr.Same(n, m) {
		t.Errorf("Read answers another node of the same words: %v, %v", n, m)
	}
	spoil(n)
	if query.Show(m) != s {
		t.Errorf("two answers share memory: %v", m)
	}
	// Kids that are put behind a node's Kids go into none of the other nodes.
	grow(m)
	if query.Show(m) != s {
		t.Errorf("two lists of one answer share memory: %v", m)
	}
	leaves := query.Leaves(m)
	leaves[0] = "x"
	if query.Show(m) != s || query.Leaves(m)[0] != "t" {
		t.Error("Leaves shares memory")
	}
	k := filter(of("", a), of("text", a))
	query.Show(k)
	query.Leaves(k)
	if !expr.Same(k, filter(of("", a), of("text", a))) {
		t.Error("a node is written into")
	}
}

// spoil makes all Kids others.
func spoil(n api.Node) {
	for i := range n.Kids {
		spoil(n.Kids[i])
		n.Kids[i] = api.Node{Op: "spoilt"}
	}
}

// grow writes behind each list of Kids.
func grow(n api.Node) {
	_ = append(n.Kids, api.Node{Op: "spoilt"}, api.Node{Op: "spoilt"}, api.Node{Op: "spoilt"})
	for _, k := range n.Kids {
		grow(k)
	}
}

// P10.1, P10.2, P1: with 2^16 parts nested in one another, and with as many beside one another, all calls end.
func TestLong(t *testing.T) {
	const n = 1 << 16
	for _, k := range []struct {
		s      string
		leaves int
	}{
		{times("filter(", n-2) + "t" + times(", a)", n-2), 1}, {times("distinct(", n-1) + "t" + times(")", n-1), 1}, {times("union(t, ", n-1) + "t" + times(")", n-1), n}, {times("join(", n-3) + "t" + times(", t, a = b)", n-3), n - 2}, {times("join(t, ", n-3) + "t" + times(", a = b)", n-3), n - 2}, {times("project(", n-3) + "t" + times(", a = 1)", n-3), 1}, {times("group(", n-3) + "t" + times(", by a, n = count())", n-3), 1},
		{"filter(t, " + times("not ", n-2) + "a)", 1},
	} {
		wrong(t, k.s, 0, api.ErrDeep)
		l := words(t, k.s)
		node, at, e := query.Read(l, 0)
		if at != len(l) || e != api.OK || expr.Deep(node) < n-2 || query.Show(node) != k.s || len(query.Leaves(node)) != k.leaves {
			t.Errorf("Read(%q, 0): %d, %d, deep %d, %d leaves", cut(k.s), at, e, expr.Deep(node), len(query.Leaves(node)))
		}
		halts(t, l[:len(l)-1], 0, len(l)-1)
	}
	for _, s := range []string{"union(t" + times(", u", n) + ")", "project(t" + times(", a = b + 1", n) + ")", "join(t, u" + times(", a = b", n) + ")", "group(t, by" + times(" by", n) + times(", by = sum(by)", n) + ")"} {
		node, at, e := query.Parse(s)
		if at != 0 || e != api.OK || query.Show(node) != s {
			t.Errorf("Parse(%q): %d, %d", cut(s), at, e)
		}
		wrong(t, s[:len(s)-1], len(s)-1, api.ErrSyntax)
	}
}
