package ddl_test

import (
	"slices"
	"strings"
	"testing"

	"instar/api"
	"instar/ddl"
	"instar/expr"
	"instar/lex"
)

// Short forms of nodes, and of texts.
func of(op string, kids ...api.Node) api.Node { return api.Node{Op: op, Kids: kids} }
func named(op, text string, kids ...api.Node) api.Node {
	return api.Node{Op: op, Text: text, Kids: kids}
}
func from(s string) api.Node               { return named("from", s) }
func col(s string) api.Node                { return named("col", s) }
func kind(s string) api.Node               { return named("kind", s) }
func column(s, k string) api.Node          { return named("column", s, kind(k)) }
func number(s string) api.Node             { return named("num", s) }
func below(s string) api.Node              { return of("neg", number(s)) }
func text(s string) api.Node               { return named("text", s) }
func add(s string, c, l api.Node) api.Node { return named("add", s, c, l) }
func times(s string, n int) string         { return strings.Repeat(s, n) }

// Nodes that stand in many of the statements below.
var (
	t0, u0 = from("t"), from("u")
	a, b   = col("a"), col("b")
	one    = number("1")
	null   = of("null")
	int32s = column("a", "int32")
	bools  = column("c", "bool")
)

// The kinds' names, the statements' own words, and the language's own names (8).
var (
	kinds = []string{"bool", "int32", "int64", "text"}
	ours  = []string{"create", "table", "drop", "alter", "add", "rename", "to", "widen", "split", "where", "merge", "view", "redefine"}
	own   = []string{"true", "false", "null", "and", "or", "not", "is"}
)

// sample is a statement's text, as Show tells it, and its node.
type sample struct {
	text string
	node api.Node
}

// samples are statements of each form.
func samples() []sample {
	return []sample{
		{"create table t(a int32)", named("create table", "t", int32s)},
		{"create table t(a int32, b text, c bool, d int64, a int32)", named("create table", "t", int32s, column("b", "text"), bools, column("d", "int64"), int32s)},
		{"drop table t", named("drop table", "t")},
		{"alter t add c bool", add("t", bools, null)},
		{"alter t add c bool = 7", add("t", bools, number("7"))},
		{"alter t add c bool = -7", add("t", bools, below("7"))},
		{"alter t add c bool = 'it''s'", add("t", bools, text("it's"))},
		{"alter t add c bool = true", add("t", bools, of("true"))},
		{"alter t add c bool = false", add("t", bools, of("false"))},
		{"alter t drop a", named("drop", "t", a)},
		{"alter t rename a to b", named("rename", "t", a, b)},
		{"alter t widen a to int64", named("widen", "t", a, kind("int64"))},
		{"split v to t , u where a < 1", named("split", "v", t0, u0, of("<", a, one))},
		{"split v to t , u where not a or b = 'x' and a is null", named("split", "v", t0, u0, of("or", of("not", a), of("and", of("=", b, text("x")), of("is null", a))))},
		{"merge t , u to v", named("merge", "v", t0, u0)},
		{"create view v = t", named("create view", "v", t0)},
		{"create view v = filter(t, a < 1)", named("create view", "v", of("filter", t0, of("<", a, one)))},
		{"redefine view v = union(t, u)", named("redefine view", "v", of("union", t0, u0))},
		{"redefine view v = group(t, by a, n = count())", named("redefine view", "v", of("group", t0, of("by", a), named("agg", "n", of("count"))))},
		{"drop view v", named("drop view", "v")},
	}
}

// cut is a text that is short enough to be told.
func cut(s string) string { return s[:min(len(s), 200)] }

// words are a text's.
func words(t *testing.T, s string) []lex.Word {
	t.Helper()
	l, at, e := lex.Words(s)
	if e != api.OK {
		t.Fatalf("Words(%q): %d, %d", cut(s), at, e)
	}
	return l
}

// is holds a text's node against the one that it should have.
func is(t *testing.T, s string, want api.Node) {
	t.Helper()
	if n, at, e := ddl.Parse(s); !expr.Same(n, want) || at != 0 || e != api.OK {
		t.Errorf("Parse(%q): %v, %d, %d, not %v", cut(s), n, at, e, want)
	}
}

// wrong holds the place, and the error, of a text's fault against those that it should have.
func wrong(t *testing.T, s string, place int, want api.Errno) {
	t.Helper()
	if n, at, e := ddl.Parse(s); !expr.Same(n, api.Node{}) || at != place || e != want {
		t.Errorf("Parse(%q): %v, %d, %d, not %d at %d", cut(s), n, at, e, want, place)
	}
}

// goes holds that a text is a statement, shown as it stands.
func goes(t *testing.T, s string) {
	t.Helper()
	if n, at, e := ddl.Parse(s); at != 0 || e != api.OK || ddl.Show(n) != s {
		t.Errorf("Parse(%q): %v, %d, %d", cut(s), n, at, e)
	}
}

// P11.1, D1: the node of each form, with blanks wherever they may be, and with none where none must be.
func TestForms(t *testing.T) {
	for _, s := range samples() {
		is(t, s.text, s.node)
		var wide, narrow strings.Builder
		for i, w := range words(t, s.text) {
			wide.WriteString(" \n\t" + lex.Text(w))
			if i > 0 && w.Kind != lex.Mark && !strings.HasSuffix(narrow.String(), "(") {
				narrow.WriteString(" ")
			}
			narrow.WriteString(lex.Text(w))
		}
		is(t, wide.String()+"\n ", s.node)
		is(t, narrow.String(), s.node)
	}
	is(t, "merge t,u to v", named("merge", "v", t0, u0))
	is(t, "split t to t,t where(a)", named("split", "t", t0, t0, a))
	is(t, "create view v=t", named("create view", "v", t0))
	is(t, "alter t add c bool=-7", add("t", bools, below("7")))
}

// P11.1, D1: words that end too early, behind each word of each form, and a word more than there may be.
func TestEnds(t *testing.T) {
	for s, at := range map[string]int{"": 0, " ": 1, "\n\t ": 3} {
		wrong(t, s, at, api.ErrSyntax)
	}
	// No beginning of these is a statement.
	for _, s := range []string{"create table t(a int32, b text)", "drop table t", "alter t add c bool", "alter t drop a", "alter t rename a to b", "alter t widen a to int64", "split v to t , u where a", "merge t , u to v", "create view v = t", "redefine view v = t", "drop view v"} {
		goes(t, s)
		for _, w := range words(t, s) {
			early := s[:w.At]
			wrong(t, early, len(early), api.ErrSyntax)
			wrong(t, strings.TrimSpace(early), len(strings.TrimSpace(early)), api.ErrSyntax)
			wrong(t, early+" \n", len(early)+2, api.ErrSyntax)
		}
	}
	for _, s := range []string{"alter t add c bool =", "alter t add c bool = -", "split v to t , u where not", "split v to t , u where a <", "split v to t , u where (a", "create view v = filter(", "create view v = filter(t", "create view v = filter(t,", "redefine view v = filter(t, a"} {
		wrong(t, s, len(s), api.ErrSyntax)
	}
	for _, s := range samples() {
		for _, more := range []string{"t", ")", "(", ",", "true", "null", "not", "1", "'x'", "drop", "to", "create table t(a bool)", s.text} {
			wrong(t, s.text+" "+more, len(s.text)+1, api.ErrSyntax)
		}
	}
}

// places are texts with a name to be put in where the # stands.
func places() []string {
	return []string{
		"create table #(a int32)", "create table t(# int32)", "create table t(a int32, # text)", "create table t(a int32, b text, # bool)", "drop table #", "alter # add c bool", "alter t add # bool", "alter t add # bool = 1", "alter # drop a", "alter t drop #",
		"alter # rename a to b", "alter t rename # to b", "alter t rename a to #", "alter # widen a to int64", "alter t widen # to int64", "split # to t , u where a", "split v to # , u where a", "split v to t , # where a", "split v to t , u where # = 1", "merge # , u to v", "merge t , # to v", "merge t , u to #",
		"create view # = t", "create view v = #", "create view v = distinct(#)", "redefine view # = t", "redefine view v = #", "drop view #",
	}
}

// P11.1, D1: each of the language's own names, a figure, a quote and a mark go wrong where a name should stand; every other name may stand there, a statement's own words, too.
func TestNames(t *testing.T) {
	for _, p := range places() {
		at := strings.Index(p, "#")
		for _, s := range slices.Concat(own, []string{"1", "'a'", "'to'", "''", "-", "+", "<=", "(", ")", ",", "="}) {
			if strings.Contains(p, "where #") && strings.Contains(" true false null 1 'a' 'to' '' ", " "+s+" ") {
				goes(t, strings.Replace(p, "#", s, 1))
				continue
			}
			if strings.Contains(p, "where #") && strings.Contains(" not - ( ", " "+s+" ") {
				// It begins an expression.
				wrong(t, strings.Replace(p, "#", s, 1), at+len(s)+1, api.ErrSyntax)
				continue
			}
			wrong(t, strings.Replace(p, "#", s, 1), at, api.ErrSyntax)
		}
		for _, s := range slices.Concat(ours, kinds, []string{"x", "by", "count", "filter", "from", "col", "column", "kind", "num", "neg", "NULL", "Not", "nulls", "is_", "int", times("x", api.MaxName)}) {
			goes(t, strings.Replace(p, "#", s, 1))
		}
		wrong(t, strings.Replace(p, "#", times("x", api.MaxName+1), 1), at, api.ErrLex)
	}
}

// P11.1, D1: a statement's own words as all its names.
func TestOwnWords(t *testing.T) {
	for _, s := range slices.Concat(ours, kinds) {
		c := column(s, "text")
		for in, want := range map[string]api.Node{
			"create table #(# text, # text)": named("create table", s, c, c),
			"drop table #":                   named("drop table", s),
			"alter # add # text":             add(s, c, null),
			"alter # drop #":                 named("drop", s, col(s)),
			"alter # rename # to #":          named("rename", s, col(s), col(s)),
			"alter # widen # to int64":       named("widen", s, col(s), kind("int64")),
			"split # to # , # where #":       named("split", s, from(s), from(s), col(s)),
			"merge # , # to #":               named("merge", s, from(s), from(s)),
			"create view # = #":              named("create view", s, from(s)),
			"redefine view # = filter(#, #)": named("redefine view", s, of("filter", from(s), col(s))),
			"drop view #":                    named("drop view", s),
		} {
			is(t, strings.ReplaceAll(in, "#", s), want)
		}
	}
}

// P11.1, D1: a word of a statement stands where it must, as it is written, and as a name; no other one does.
func TestOtherWords(t *testing.T) {
	for _, s := range samples() {
		l := words(t, s.text)
		// The last place that is not a name's, a kind's or within an expression, or a query, hangs on the form.
		for n, w := range l {
			if !slices.Contains(ours, w.Text) || w.Kind != lex.Name || n > 0 && l[n-1].Kind == lex.Mark {
				continue
			}
			for _, other := range []string{strings.ToUpper(w.Text), w.Text + "s", w.Text[:len(w.Text)-1], "'" + w.Text + "'", "x", "=", "1", "null"} {
				wrong(t, s.text[:w.At]+other+s.text[w.At+len(w.Text):], w.At, api.ErrSyntax)
			}
		}
	}
}

// P11.1, D1: a table has a column at the least, and may have many, with a comma between.
func TestColumns(t *testing.T) {
	for s, at := range map[string]int{
		"create table t()": 15, "create table t( )": 16, "create table t(": 15, "create table t": 14, "create table t a int32": 15, "create table t(a)": 16, "create table t(a, b int32)": 16, "create table t(int32)": 20, "create table t(a int32": 22, "create table t(a int32,)": 23, "create table t(a int32, )": 24, "create table t(a int32,": 23, "create table t(, a int32)": 15,
		"create table t(a int32,, b text)": 23, "create table t(a int32 b text)": 23, "create table t(a int32 int32)": 23, "create table t(a b int32)": 17, "create table t(a int32))": 23, "create table t((a int32))": 15, "create table t(a int32) = t": 24, "create table t(a = int32)": 17, "create table t(a int32 = 1)": 23, "create table t(a int32 'x')": 23, "create table (a int32)": 13, "create table t = (a int32)": 15,
	} {
		wrong(t, s, at, api.ErrSyntax)
	}
	for n := 1; n < 30; n++ {
		want := named("create table", "t")
		var l []string
		for i := range n {
			s, k := times("c", 1+i%20), kinds[i%4]
			want.Kids = append(want.Kids, column(s, k))
			l = append(l, s+" "+k)
		}
		s := "create table t(" + strings.Join(l, ", ") + ")"
		is(t, s, want)
		is(t, strings.ReplaceAll(s, ", ", "\n,"), want)
		wrong(t, s[:len(s)-1], len(s)-1, api.ErrSyntax)
		wrong(t, s[:len(s)-1]+",)", len(s), api.ErrSyntax)
	}
}

// P11.1, D1: each kind, and names and words that are none, where a kind should stand.
func TestKinds(t *testing.T) {
	for _, p := range []string{"create table t(a #)", "create table t(a #, b text)", "create table t(b text, a #)", "alter t add a #", "alter t add a # = 1", "alter t widen a to #"} {
		at := strings.Index(p, "#")
		for _, s := range kinds {
			n, _, e := ddl.Parse(strings.Replace(p, "#", s, 1))
			if !hasKind(n, s) || e != api.OK {
				t.Errorf("%q with %s: %v, %d", p, s, n, e)
			}
		}
		for _, s := range slices.Concat(own, ours, []string{"float", "int", "int16", "int128", "Bool", "BOOL", "bools", "boo", "texts", "null_", "'bool'", "'text'", "''", "32", "1", "-", "=", "(", ",", "int32s", "varchar", "column", "kind"}) {
			wrong(t, strings.Replace(p, "#", s, 1), at, api.ErrSyntax)
		}
		wrong(t, strings.Replace(p, "#", "int 32", 1), at, api.ErrSyntax)
		wrong(t, strings.Replace(p, "#", "bool text", 1), at+5, api.ErrSyntax)
	}
}

// hasKind tells whether a node has that kind, or the column a of that kind.
func hasKind(n api.Node, s string) bool {
	return slices.ContainsFunc(n.Kids, func(k api.Node) bool {
		return expr.Same(k, kind(s)) || expr.Same(k, column("a", s))
	})
}

// P11.1, D1: literals, with and without a sign; what is none, and the place where it is wrong.
func TestLiteralsRead(t *testing.T) {
	ahead := "alter t add c bool = "
	for s, want := range map[string]api.Node{
		"0": number("0"), "1": one, "007": number("7"), "00": number("0"), times("0", 19): number("0"), times("0", 18) + "7": number("7"), "2147483648": number("2147483648"), "9223372036854775807": number("9223372036854775807"), "9223372036854775806": number("9223372036854775806"),
		"-0": below("0"), "-1": below("1"), "- 1": below("1"), "-\n\t1": below("1"), "-007": below("7"), "-9223372036854775807": below("9223372036854775807"),
		"'x'": text("x"), "''": text(""), "'it''s'": text("it's"), "'null'": text("null"), "'-1'": text("-1"), "'" + times("x", 200) + "'": text(times("x", 200)), "'" + times("''", 200) + "'": text(times("'", 200)),
		"true": of("true"), "false": of("false"), "null": null,
	} {
		is(t, ahead+s, add("t", bools, want))
		is(t, "alter t add c bool="+s, add("t", bools, want))
		wrong(t, ahead+"("+s+")", len(ahead), api.ErrSyntax)
		wrong(t, ahead+"not "+s, len(ahead), api.ErrSyntax)
		wrong(t, ahead+"+"+s, len(ahead), api.ErrSyntax)
		wrong(t, ahead+"- - "+s, len(ahead)+2, api.ErrSyntax)
		for _, more := range []string{"1", "+ 1", "- 1", "* 2", "= 1", "is null", "and true", "'x'", "true", "null", ",", ")", "c", "to"} {
			wrong(t, ahead+s+" "+more, len(ahead)+len(s)+1, api.ErrSyntax)
		}
		// There is no literal without the mark.
		wrong(t, "alter t add c bool "+s, 19, api.ErrSyntax)
		wrong(t, "alter t add c = "+s, 14, api.ErrSyntax)
	}
	for s, at := range map[string]int{
		"": 0, "-": 1, "- ": 2, "--1": 1, "- - 1": 2, "-'x'": 1, "- ''": 2, "-true": 1, "-false": 1, "- null": 2, "-c": 1, "-(1)": 1, "-not": 1, "-=": 1, "c": 0, "bool": 0, "to": 0, "and": 0, "or": 0, "is": 0, "not": 0, "not true": 0, "(": 0, ")": 0, "=": 0, "= 1": 0, "<": 0, "+1": 0, "*": 0, ",": 0,
		"9223372036854775808": 0, "9999999999999999999": 0, "-9223372036854775808": 1, "- 9223372036854775809": 2, "True": 0, "NULL": 0, "False": 0, "1 + 1": 2, "1 2": 2, "null null": 5, "x 1": 0,
	} {
		wrong(t, ahead+s, len(ahead)+at, api.ErrSyntax)
	}
	for s, at := range map[string]int{times("0", 20): 0, times("9", 20): 0, times("1", 21): 0, "-" + times("1", 20): 1, "'" + times("x", 201) + "'": 0, "'x": 0, "?": 0, "1.5": 1, "_": 0, "-'": 1} {
		wrong(t, ahead+s, len(ahead)+at, api.ErrLex)
	}
}

// P11.1, D1: the byte at which the first word stands that none could have there.
func TestPlaces(t *testing.T) {
	for s, at := range map[string]int{
		"x": 0, "t": 0, "table t": 0, "'create' table t(a bool)": 0, "(drop table t)": 0, "1": 0, "null": 0, "Create table t(a bool)": 0, "add t": 0, "select": 0, "view v = t": 0, "= t": 0,
		"create": 6, "create t(a bool)": 7, "create tables t(a bool)": 7, "create 'table' t(a bool)": 7, "create table": 12, "create drop table t": 7, "create view": 11, "create view v t": 14, "create view v(t)": 13, "create view v = ": 16, "create view v = (t)": 16, "create view v = t u": 18, "create view v = a + 1": 18, "create view v = filter(t)": 24, "create view v = filter(t, a = b = c)": 32, "create view v = x(t)": 17, "create view v = 'x'": 16, "create view v == t": 15, "create view v <= t": 14,
		"drop": 4, "drop t": 5, "drop column a": 5, "drop table": 10, "drop view": 9, "drop table t, u": 12, "drop table t(a int32)": 12, "drop view v = t": 12, "drop table view v": 16, "drop view table v": 16,
		"alter": 5, "alter t": 7, "alter table t add c bool": 12, "alter t a": 8, "alter t create c bool": 8, "alter t 'add' c bool": 8, "alter t = add": 8, "alter t add": 11, "alter t add c": 13, "alter t add column c bool": 19, "alter t add (c bool)": 12, "alter t add c bool default 1": 19, "alter t add c bool, d bool": 18, "alter t drop": 12, "alter t drop a, b": 14, "alter t drop a b": 15, "alter t drop column a": 20, "alter t rename": 14, "alter t rename a": 16, "alter t rename a b": 17, "alter t rename a to": 19, "alter t rename a , b": 17, "alter t rename a to b to c": 22, "alter t rename to b": 18, "alter t widen": 13, "alter t widen a": 15, "alter t widen a int64": 16, "alter t widen a to": 18, "alter t widen a to b": 19, "alter t widen a to int64 int32": 25, "alter t widen a = int64": 16,
		"split": 5, "split t": 7, "split t into x, y where a": 8, "split t to x": 12, "split t to x y where a": 13, "split t to x, y": 15, "split t to x, y, z where a": 15, "split t to x, where a": 20, "split t to x, y if a": 16, "split t to x, y where": 21, "split t to x, y where )": 22, "split t to x, y where a b": 24, "split t to x, y where a = b = c": 28, "split t to x, y where (a": 24, "split t to x, y where a or": 26, "split t to x, y where a and or b": 28, "split t to x, y where 9223372036854775808": 22, "split t to x, y where f(a)": 23, "split t, u to x where a": 7, "split to x, y where a": 9,
		"merge": 5, "merge t": 7, "merge t u to v": 8, "merge t, u": 10, "merge t, u v": 11, "merge t, u into v": 11, "merge t, u, v to w": 10, "merge t, u to": 13, "merge t, to v": 12, "merge t, u to v, w": 15, "merge t to v": 8, "merge (t, u) to v": 6,
		"redefine": 8, "redefine v = t": 9, "redefine table t(a bool)": 9, "redefine view": 13, "redefine view v": 15, "redefine view v t": 16, "redefine view v =": 17, "redefine view v = union(t)": 25, "redefine view v = t)": 19, "redefine view v = by(t)": 20,
	} {
		wrong(t, s, at, api.ErrSyntax)
		// Blanks ahead: the place goes along.
		wrong(t, " \t"+s+"\n", at+2+max(0, 1+at-len(s)), api.ErrSyntax)
	}
}

// P11.1, D1: an error of the words is ahead of one of the statement, and that ahead of one that is too deep.
func TestFirst(t *testing.T) {
	deep := "split t to x , y where " + times("not ", api.MaxDeep)
	for s, at := range map[string]int{"drop table t ?": 13, "!": 0, ") 'b": 2, "create table t() ;": 17, "x u 'x": 4, deep + "a ?": len(deep) + 2, "drop view " + times("x", 21): 10, "alter t add c int32 = " + times("1", 20): 22, "alter t add c text = '" + times("x", 201) + "'": 21} {
		wrong(t, s, at, api.ErrLex)
	}
	wrong(t, deep+"a", 0, api.ErrDeep)
	wrong(t, deep+"a b", len(deep)+2, api.ErrSyntax)
	wrong(t, deep, len(deep), api.ErrSyntax)
	query := times("distinct(", api.MaxDeep) + "t" + times(")", api.MaxDeep)
	wrong(t, "create view v = "+query, 0, api.ErrDeep)
	wrong(t, "redefine view v = "+query+")", 18+len(query), api.ErrSyntax)
	wrong(t, "create view v = "+query[:len(query)-1], 15+len(query), api.ErrSyntax)
}

// P11.1, D1: a statement is nested 16 deep at the most, with all that is in it.
func TestDeep(t *testing.T) {
	for _, k := range []struct {
		ahead, in, behind string
		more              int
	}{
		{"split t to x , y where ", "a", "", 1}, {"create view v = filter(t, ", "a", ")", 2}, {"redefine view v = filter(t, ", "a", ")", 2}, {"create view v = project(t, a = ", "a", ")", 3}, {"redefine view v = distinct(project(t, b = 1, a = ", "a", "))", 4},
	} {
		for n := 10; n < 20; n++ {
			// An expression that is nested n deep; brackets do not count.
			for _, s := range []string{times("not ", n-1) + k.in, times("(", 20) + times("not ", n-1) + k.in + times(")", 20)} {
				limit(t, k.ahead+s+k.behind, n+k.more)
			}
			limit(t, k.ahead+times("(", n-1)+k.in+times(" + a)", n-1)+k.behind, n+k.more)
		}
	}
	for n := 1; n < 20; n++ {
		// A query that is nested n deep.
		limit(t, "create view v = "+times("distinct(", n-1)+"t"+times(")", n-1), n+1)
		limit(t, "redefine view v = "+times("union(u, ", n-1)+"t"+times(")", n-1), n+1)
	}
}

// limit holds a statement that is nested so deep against what should be answered.
func limit(t *testing.T, s string, deep int) {
	t.Helper()
	if deep > 16 {
		wrong(t, s, 0, api.ErrDeep)
		return
	}
	n, at, e := ddl.Parse(s)
	if at != 0 || e != api.OK || expr.Deep(n) != deep {
		t.Errorf("Parse(%q): %v, %d, %d, not %d deep", cut(s), n, at, e, deep)
	}
	is(t, ddl.Show(n), n)
}

// P11.1, D2: Names are a node's Text, and the names of all froms in its parts, in order, as often as they stand.
func TestTables(t *testing.T) {
	for s, want := range map[string]string{
		"create table t(u int32, v text)": "t", "drop table t": "t", "alter t add u bool = 'v'": "t", "alter t drop u": "t", "alter t rename u to v": "t", "alter t widen u to int64": "t", "split t to x , y where u = v": "t x y", "split t to t , t where true": "t t t", "merge t , u to v": "v t u", "merge u , t to t": "t u t",
		"create view v = t": "v t", "create view v = v": "v v", "redefine view v = filter(t, u = 1)": "v t", "create view v = join(t, union(u, t, filter(w, a)), a = b)": "v t u t w", "redefine view v = group(project(distinct(x), y = z), by a, n = count(), m = max(b))": "v x", "drop view v": "v",
	} {
		n, _, e := ddl.Parse(s)
		if l := ddl.Names(n); !slices.Equal(l, strings.Fields(want)) || e != api.OK {
			t.Errorf("Names(%q): %q, not %q", s, l, want)
		}
	}
	for _, k := range []struct {
		n    api.Node
		want []string
	}{
		{api.Node{}, []string{""}}, {t0, []string{"t"}}, {named("from", "t", u0, from("")), []string{"t", "u", ""}}, {a, []string{"a"}}, {of("union", t0, u0, t0), []string{"", "t", "u", "t"}}, {named("drop table", "t", u0), []string{"t", "u"}}, {named("", "x", of("", t0, of("+", u0))), []string{"x", "t", "u"}},
		{named("split", "t", t0, u0, of("=", from("x"), a)), []string{"t", "t", "u", "x"}}, {named("create table", "t", named("column", "c", from("kind"))), []string{"t", "kind"}}, {of("from", of("from", u0)), []string{"", "", "u"}}, {named("From", "x", named("From", "y", t0)), []string{"x", "t"}},
	} {
		if l := ddl.Names(k.n); !slices.Equal(l, k.want) {
			t.Errorf("Names(%v): %q, not %q", k.n, l, k.want)
		}
	}
}

// P11.1, D1, D2: what is handed in is neither written into nor kept, and what is answered is new memory.
func TestNothingShared(t *testing.T) {
	for _, s := range samples() {
		n, _, _ := ddl.Parse(s.text)
		m, _, _ := ddl.Parse(s.text)
		spoil(n)
		is(t, s.text, m)
		// Kids that are put behind a node's Kids go into none of the other nodes.
		grow(m)
		if ddl.Show(m) != s.text {
			t.Errorf("two lists of one answer share memory: %v", m)
		}
		names := ddl.Names(m)
		for i := range names {
			names[i] = "spoilt"
		}
		_ = append(names, "spoilt")
		if ddl.Show(m) != s.text || slices.Contains(ddl.Names(m), "spoilt") {
			t.Errorf("Names shares memory: %v", m)
		}
		for _, k := range m.Kids {
			ddl.Literal(k, api.Int64)
		}
		if !expr.Same(m, s.node) {
			t.Errorf("a node is written into: %v", m)
		}
	}
}

// spoil makes all Kids others.
func spoil(n api.Node) {
	for i := range n.Kids {
		spoil(n.Kids[i])
		n.Kids[i] = api.Node{Op: "spoilt"}
	}
}

// grow writes behind each list of Kids.
func grow(n api.Node) {
	_ = append(n.Kids, api.Node{Op: "spoilt"}, api.Node{Op: "spoilt"}, api.Node{Op: "spoilt"})
	for _, k := range n.Kids {
		grow(k)
	}
}

// P11.1, P11.2, P1: with 2^16 parts nested in one another, and with as many beside one another, all calls end.
func TestLong(t *testing.T) {
	const n = 1 << 16
	for _, s := range []string{"split t to x , y where " + times("not ", n-2) + "a", "create view v = " + times("distinct(", n-2) + "t" + times(")", n-2), "redefine view v = " + times("filter(", n-3) + "t" + times(", a)", n-3)} {
		wrong(t, s, 0, api.ErrDeep)
		wrong(t, s+" )", len(s)+1, api.ErrSyntax)
	}
	deep := t0
	for range n - 2 {
		deep = of("distinct", deep)
	}
	deep = named("create view", "v", deep)
	if s := ddl.Show(deep); s != "create view v = "+times("distinct(", n-2)+"t"+times(")", n-2) || !slices.Equal(ddl.Names(deep), []string{"v", "t"}) {
		t.Errorf("Show, or Names, of a deep node: %q", cut(s))
	}
	goes(t, "create table t(a int32"+times(", b text", n)+")")
	wrong(t, "create table t(a int32"+times(", b text", n), 22+8*n, api.ErrSyntax)
	goes(t, "split t to x , y where a"+times(" or b", 14))
	s := "create view v = union(t" + times(", u", n) + ")"
	goes(t, s)
	node, _, _ := ddl.Parse(s)
	if l := ddl.Names(node); len(l) != n+2 || l[n+1] != "u" {
		t.Errorf("%d names", len(l))
	}
}
