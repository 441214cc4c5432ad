package expr_test

import (
	"math"
	"slices"
	"strings"
	"testing"

	"instar/api"
	"instar/expr"
	"instar/lex"
)

// Short forms of nodes, and of texts.
func of(op string, kids ...api.Node) api.Node { return api.Node{Op: op, Kids: kids} }
func col(s string) api.Node                   { return api.Node{Op: "col", Text: s} }
func num(s string) api.Node                   { return api.Node{Op: "num", Text: s} }
func text(s string) api.Node                  { return api.Node{Op: "text", Text: s} }
func times(s string, n int) string            { return strings.Repeat(s, n) }

// Columns that stand in many of the expressions below.
var a, b, c, d = col("a"), col("b"), col("c"), col("d")

// The Ops of nodes with one Kid, and of those with two.
var (
	ones  = []string{"not", "neg", "is null"}
	tests = []string{"=", "<>", "<", "<=", ">", ">="}
	twos  = append([]string{"or", "and", "+", "-", "*"}, tests...)
)

// The language's own names (8), of which three are expressions.
var (
	own    = []string{"true", "false", "null", "and", "or", "not", "is"}
	truths = own[:3]
)

// cut is a text that is short enough to be told.
func cut(s string) string { return s[:min(len(s), 200)] }

// words are a text's.
func words(t *testing.T, s string) []lex.Word {
	t.Helper()
	l, at, e := lex.Words(s)
	if e != api.OK {
		t.Fatalf("Words(%q): %d, %d", cut(s), at, e)
	}
	return l
}

// like tells whether two nodes are one, as Same should.
func like(n, m api.Node) bool {
	if n.Op != m.Op || n.Text != m.Text || len(n.Kids) != len(m.Kids) {
		return false
	}
	for i := range n.Kids {
		if !like(n.Kids[i], m.Kids[i]) {
			return false
		}
	}
	return true
}

// is holds a text's node against the one that it should have, and what is read of the text's words, too.
func is(t *testing.T, s string, want api.Node) {
	t.Helper()
	if n, at, e := expr.Parse(s); !like(n, want) || at != 0 || e != api.OK {
		t.Errorf("Parse(%q): %v, %d, %d, not %v", cut(s), n, at, e, want)
	}
	l := words(t, s)
	if n, at, e := expr.Read(l, 0); !like(n, want) || at != len(l) || e != api.OK {
		t.Errorf("Read(%q, 0): %v, %d, %d, not %v", cut(s), n, at, e, want)
	}
}

// wrong holds the place, and the error, of a text's fault against those that it should have.
func wrong(t *testing.T, s string, place int, want api.Errno) {
	t.Helper()
	if n, at, e := expr.Parse(s); !like(n, api.Node{}) || at != place || e != want {
		t.Errorf("Parse(%q): %v, %d, %d, not %d at %d", cut(s), n, at, e, want, place)
	}
}

// reads holds what is read of a text's words, from a place on, against what should be.
func reads(t *testing.T, s string, from int, want api.Node, behind int) {
	t.Helper()
	if n, at, e := expr.Read(words(t, s), from); !like(n, want) || at != behind || e != api.OK {
		t.Errorf("Read(%q, %d): %v, %d, %d, not %v, %d", s, from, n, at, e, want, behind)
	}
}

// halts holds the number of the word, where reading goes wrong, against that which it should have.
func halts(t *testing.T, l []lex.Word, from, place int) {
	t.Helper()
	if n, at, e := expr.Read(l, from); !like(n, api.Node{}) || at != place || e != api.ErrSyntax {
		t.Errorf("Read(%v, %d): %v, %d, %d, not ErrSyntax at %d", l, from, n, at, e, place)
	}
}

// shown holds a node's text against the one that it should have.
func shown(t *testing.T, n api.Node, want string) {
	t.Helper()
	if s := expr.Show(n); s != want {
		t.Errorf("Show(%v): %q, not %q", n, cut(s), cut(want))
	}
}

// P9.1, E1: the node of each kind of words, alone.
func TestWords(t *testing.T) {
	is(t, "a", a)
	is(t, "\n\t a_Z9 ", col("a_Z9"))
	is(t, times("x", api.MaxName), col(times("x", api.MaxName)))
	is(t, "7", num("7"))
	is(t, "'it''s'", text("it's"))
	is(t, "''", text(""))
	is(t, "true", of("true"))
	is(t, "false", of("false"))
	is(t, "null", of("null"))
	is(t, "-a", of("neg", a))
	is(t, "- 1", of("neg", num("1")))
	is(t, "-'x'", of("neg", text("x")))
	is(t, "-null", of("neg", of("null")))
	is(t, "not a", of("not", a))
	is(t, "a is null", of("is null", a))
	is(t, "null is null", of("is null", of("null")))
	for _, op := range twos {
		is(t, "a "+op+" b", of(op, a, b))
		is(t, "b\n"+op+"\ta", of(op, b, a))
	}
	is(t, "a<='x'", of("<=", a, text("x")))
	is(t, "a- -1", of("-", a, of("neg", num("1"))))
}

// P9.1, E1: the weaker holds more, and the left ones are first.
func TestWeaker(t *testing.T) {
	is(t, "a or b or c", of("or", of("or", a, b), c))
	is(t, "a and b and c", of("and", of("and", a, b), c))
	is(t, "a or b and c", of("or", a, of("and", b, c)))
	is(t, "a and b or c", of("or", of("and", a, b), c))
	is(t, "a and b or c and d", of("or", of("and", a, b), of("and", c, d)))
	is(t, "not a and b", of("and", of("not", a), b))
	is(t, "a and not b", of("and", a, of("not", b)))
	is(t, "a or not b or c", of("or", of("or", a, of("not", b)), c))
	is(t, "not a = b", of("not", of("=", a, b)))
	is(t, "not a is null", of("not", of("is null", a)))
	is(t, "a = b and c < d", of("and", of("=", a, b), of("<", c, d)))
	is(t, "a + b >= c - d", of(">=", of("+", a, b), of("-", c, d)))
	is(t, "a + b is null", of("is null", of("+", a, b)))
	is(t, "a + b - c + d", of("+", of("-", of("+", a, b), c), d))
	is(t, "a - b - c", of("-", of("-", a, b), c))
	is(t, "a * b * c", of("*", of("*", a, b), c))
	is(t, "a + b * c", of("+", a, of("*", b, c)))
	is(t, "a * b - c", of("-", of("*", a, b), c))
	is(t, "-a * b", of("*", of("neg", a), b))
	is(t, "a * -b", of("*", a, of("neg", b)))
	is(t, "-a + b", of("+", of("neg", a), b))
	is(t, "-a - -b", of("-", of("neg", a), of("neg", b)))
	is(t, "-a = -b", of("=", of("neg", a), of("neg", b)))
	is(t, "-a is null", of("is null", of("neg", a)))
	is(t, "not -a", of("not", of("neg", a)))
	is(t, "not a - 1 - 02 * -b <= 3 and 'x' is null", of("and",
		of("not", of("<=", of("-", of("-", a, num("1")), of("*", num("2"), of("neg", b))), num("3"))),
		of("is null", text("x"))))
}

// P9.1, E1: signs of signs, and not of not.
func TestSigns(t *testing.T) {
	is(t, "--a", of("neg", of("neg", a)))
	is(t, "- - -1", of("neg", of("neg", of("neg", num("1")))))
	is(t, "a---b", of("-", a, of("neg", of("neg", b))))
	is(t, "a*--b", of("*", a, of("neg", of("neg", b))))
	is(t, "-(-a)", of("neg", of("neg", a)))
	is(t, "not not a", of("not", of("not", a)))
	is(t, "not not not a = b", of("not", of("not", of("not", of("=", a, b)))))
	is(t, "not (not a)", of("not", of("not", a)))
	is(t, "a and not not b", of("and", a, of("not", of("not", b))))
	// A sign holds a word alone, and not holds a test: neither is to be had where less is held.
	wrong(t, "- not a", 2, api.ErrSyntax)
	wrong(t, "a + not b", 4, api.ErrSyntax)
	wrong(t, "a * not b", 4, api.ErrSyntax)
	wrong(t, "a = not b", 4, api.ErrSyntax)
	wrong(t, "a not b", 2, api.ErrSyntax)
	wrong(t, "+a", 0, api.ErrSyntax)
	wrong(t, "a - + b", 4, api.ErrSyntax)
	is(t, "a + (not b)", of("+", a, of("not", b)))
	is(t, "-(not a)", of("neg", of("not", a)))
	is(t, "a = (not b)", of("=", a, of("not", b)))
}

// P9.1, E1: what is in brackets is its node, wherever they are, and however many; they do not count as nested.
func TestBrackets(t *testing.T) {
	is(t, "(a)", a)
	is(t, "((a))", a)
	is(t, "('x')", text("x"))
	is(t, "(null)", of("null"))
	is(t, "(a) - b", of("-", a, b))
	is(t, "((a) + ((b)))", of("+", a, b))
	is(t, "a - (b - c) - d", of("-", of("-", a, of("-", b, c)), d))
	is(t, "(a - b) - c", of("-", of("-", a, b), c))
	is(t, "(a + b) * c", of("*", of("+", a, b), c))
	is(t, "a * (b * c)", of("*", a, of("*", b, c)))
	is(t, "a and (b or c)", of("and", a, of("or", b, c)))
	is(t, "(a or b) and c", of("and", of("or", a, b), c))
	is(t, "a or (b or c)", of("or", a, of("or", b, c)))
	is(t, "not (a or b)", of("not", of("or", a, b)))
	is(t, "(not a) or b", of("or", of("not", a), b))
	is(t, "-(a + b)", of("neg", of("+", a, b)))
	is(t, "(-a)", of("neg", a))
	is(t, "(a is null) is null", of("is null", of("is null", a)))
	is(t, "(a = b) = c", of("=", of("=", a, b), c))
	is(t, "a = (b = c)", of("=", a, of("=", b, c)))
	is(t, "(a = (b)) is null", of("is null", of("=", a, b)))
	for _, n := range []int{15, 16, 17, 18, 1000} {
		is(t, times("(", n)+"a"+times(")", n), a)
		is(t, times("(", n)+"a or b"+times(")", n)+" = "+times("(", n)+"c"+times(")", n), of("=", of("or", a, b), c))
		wrong(t, times("(", n), n, api.ErrSyntax)
		wrong(t, times("(", n)+"a", n+1, api.ErrSyntax)
		wrong(t, times("(", n)+"a"+times(")", n-1), 2*n, api.ErrSyntax)
		wrong(t, times("(", n)+"a"+times(")", n+1), 2*n+1, api.ErrSyntax)
		wrong(t, times("(", n)+times(")", n), n, api.ErrSyntax)
	}
}

// P9.1, E1: a number of 64 bits, without the noughts ahead; one more is no number.
func TestNumbers(t *testing.T) {
	for s, want := range map[string]string{
		"0": "0", "00": "0", times("0", 19): "0", "1": "1", "007": "7", times("0", 18) + "5": "5", "10": "10", "0100": "100", "1000000000000000000": "1000000000000000000",
		"2147483648": "2147483648", "4294967296": "4294967296", "9223372036854775806": "9223372036854775806", "9223372036854775807": "9223372036854775807", "0922337203685477580": "922337203685477580",
	} {
		is(t, s, num(want))
		is(t, "-"+s, of("neg", num(want)))
		is(t, "a + ("+s+")", of("+", a, num(want)))
		if n, _, _ := expr.Parse(s); expr.Show(n) != want {
			t.Errorf("Show of %s: %q", s, expr.Show(n))
		}
	}
	for _, s := range []string{"9223372036854775808", "9223372036854775809", "9223372036854775810", "9999999999999999999"} {
		wrong(t, s, 0, api.ErrSyntax)
		wrong(t, "-"+s, 1, api.ErrSyntax)
		wrong(t, "a + "+s+" + b", 4, api.ErrSyntax)
		wrong(t, "(a = "+s, 5, api.ErrSyntax)
		halts(t, words(t, "a, "+s+" b"), 2, 2)
		// Where no number may stand, it is that which goes wrong.
		wrong(t, "a "+s, 2, api.ErrSyntax)
		reads(t, "a "+s, 0, a, 1)
	}
	wrong(t, times("0", 20), 0, api.ErrLex)
}

// P9.1, E1: each of the language's own names is no column.
func TestOwnNames(t *testing.T) {
	for _, s := range own {
		// Some of these names begin an expression, or are one; all others may not stand there.
		switch {
		case slices.Contains(truths, s):
			is(t, s, of(s))
			is(t, "a + "+s, of("+", a, of(s)))
			is(t, "not "+s, of("not", of(s)))
		case s == "not":
			wrong(t, s, len(s), api.ErrSyntax)
			wrong(t, "a + "+s, 4, api.ErrSyntax)
			wrong(t, "-"+s, 1, api.ErrSyntax)
			is(t, "a or not b", of("or", a, of("not", b)))
		default:
			wrong(t, s, 0, api.ErrSyntax)
			wrong(t, "a + "+s, 4, api.ErrSyntax)
			wrong(t, "not "+s, 4, api.ErrSyntax)
			wrong(t, "-"+s, 1, api.ErrSyntax)
			wrong(t, "(b and "+s+")", 7, api.ErrSyntax)
			wrong(t, "b = "+s+" or", 4, api.ErrSyntax)
			halts(t, words(t, "b "+s), 1, 1)
		}
		// A name is not its own with other letters, or with more of them.
		is(t, strings.ToUpper(s), col(strings.ToUpper(s)))
		is(t, s+"_", col(s+"_"))
		is(t, "x"+s, col("x"+s))
		// As a quote's text it is a text.
		is(t, "'"+s+"'", text(s))
	}
}

// P9.1, E1: names of other layers' words, and of Ops, are columns.
func TestOtherNames(t *testing.T) {
	for _, s := range strings.Fields("by count sum group filter table view add drop neg num text col isnull nullis True NOT Null x andor") {
		is(t, s, col(s))
		is(t, s+" = -"+s, of("=", col(s), of("neg", col(s))))
		reads(t, s+" ( a )", 0, col(s), 1)
		wrong(t, s+"(a)", len(s), api.ErrSyntax)
	}
}

// P9.1, E1: a quote's text that looks like a mark, a name or a figure is a text, and goes on with nothing.
func TestQuotes(t *testing.T) {
	for _, s := range []string{"(", ")", ",", "=", "<", ">", "+", "-", "*", "<=", ">=", "<>", "or", "and", "not", "is", "null", "is null", "true", "false", "a", "7", "007", "9223372036854775808", "", " ", "?", "neg", "num", "text", "col", "''"} {
		q := lex.Text(lex.Word{Kind: lex.Quote, Text: s})
		is(t, q, text(s))
		is(t, "a + "+q, of("+", a, text(s)))
		is(t, "-"+q, of("neg", text(s)))
		is(t, "not "+q+" is null", of("not", of("is null", text(s))))
		is(t, "("+q+")", text(s))
		wrong(t, "a "+q, 2, api.ErrSyntax)
		wrong(t, "a "+q+" b", 2, api.ErrSyntax)
		wrong(t, "a is "+q, 5, api.ErrSyntax)
		wrong(t, "(a "+q, 3, api.ErrSyntax)
		wrong(t, q+" a", len(q)+1, api.ErrSyntax)
		reads(t, "a "+q+" b", 0, a, 1)
	}
	for _, s := range []string{times("x", 200), times("'", 200), times("\xff", 200)} {
		is(t, lex.Text(lex.Word{Kind: lex.Quote, Text: s}), text(s))
	}
	wrong(t, "a = '"+times("x", 201)+"'", 4, api.ErrLex)
}

// P9.1, E1: the byte at which the first word stands that none could have there; the text's length, if they end too early.
func TestPlaces(t *testing.T) {
	for s, at := range map[string]int{
		"": 0, "  ": 2, "\n": 1, "a +": 3, "a + ": 4, "a +\t\n": 5, "not": 3, "-": 1, "(": 1, "(a": 2, "( a ": 4, "a is": 4, "a is ": 5, "a or": 4, "a and": 5, "a = ": 4, "a * (b +": 8,
		"a b": 2, "a 1": 2, "1 a": 2, "1 2": 2, "12ab": 2, "a true": 2, "a (b)": 2, "(a) (b)": 4, "(a) b": 4, "a , b": 2, "a)": 1, "(a))": 3, "()": 1, "( )": 2, ")": 0, ",": 0, "=": 0, "* a": 0, "a = b = c": 6, "a = b < c": 6, "a = b is null": 6,
		"a is null = b": 10, "a is null is null": 10, "a is null + 1": 10, "a is null * b": 10, "a is 1": 5, "a is not null": 5, "a is true": 5, "a is is": 5, "a is (null)": 5, "a is 'null'": 5, "a null": 2, "a not": 2,
		"and": 0, "or": 0, "is": 0, "is null": 0, "a and or b": 6, "a + * b": 4, "a * + b": 4, "a = = b": 4, "a <= > b": 5, "a < > b": 4, "a or (b and": 11, "a or (b and)": 11, "(a = b = c)": 7, "(a b)": 3, "((a)": 4, "- )": 2, "not )": 4,
		"a + 'x' 'y'": 8, "a - b c - d": 6, "a or b c": 7, "not a not b": 6, "9223372036854775808": 0, "a + 9223372036854775808": 4, "a in b": 2, "f(a)": 1, "count(a)": 5, "a = b, c": 5, "a = b\n)": 6,
	} {
		wrong(t, s, at, api.ErrSyntax)
		// Blanks ahead and behind: the place goes along.
		if at == len(s) {
			wrong(t, " \t"+s+"\n", at+3, api.ErrSyntax)
		} else {
			wrong(t, " \t"+s+"\n", at+2, api.ErrSyntax)
		}
	}
}

// P9.1, E1: an error of the words is ahead of one of the expression, and that ahead of one that is too deep.
func TestFirst(t *testing.T) {
	deep := times("not ", api.MaxDeep)
	for s, at := range map[string]int{"a + + !": 6, "?": 0, "a ?": 2, ") 'b": 2, "a = b = c _": 10, "a + " + times("1", 20): 4, times("x", 21): 0, deep + "a ;": len(deep) + 2, "a 'b": 2} {
		wrong(t, s, at, api.ErrLex)
	}
	wrong(t, deep+"a", 0, api.ErrDeep)
	wrong(t, deep+"a b", len(deep)+2, api.ErrSyntax)
	wrong(t, deep, len(deep), api.ErrSyntax)
	wrong(t, deep+"a +", len(deep)+3, api.ErrSyntax)
	wrong(t, "a = b = "+deep+"a", 6, api.ErrSyntax)
}

// P9.1, E1: Read goes on as long as a word comes that may go on; behind such a word all must come that it asks for.
func TestRead(t *testing.T) {
	reads(t, "f a + b , c", 1, of("+", a, b), 4)
	reads(t, "a , b", 0, a, 1)
	reads(t, "a , b", 2, b, 3)
	reads(t, "a b", 0, a, 1)
	reads(t, "a b", 1, b, 2)
	reads(t, "a = b = c", 0, of("=", a, b), 3)
	reads(t, "a = b is null", 0, of("=", a, b), 3)
	reads(t, "a is null = b", 0, of("is null", a), 3)
	reads(t, "a is null is b", 0, of("is null", a), 3)
	reads(t, "a is null and b , c", 0, of("and", of("is null", a), b), 5)
	reads(t, "a + b ) * c", 0, of("+", a, b), 3)
	reads(t, "( a + b ) * c", 1, of("+", a, b), 4)
	reads(t, "( a + b ) * c", 0, of("*", of("+", a, b), c), 7)
	reads(t, "( a ) ( b )", 0, a, 3)
	reads(t, "( a ) )", 0, a, 3)
	reads(t, "a - - b c", 2, of("neg", b), 4)
	reads(t, "not a not b", 0, of("not", a), 2)
	reads(t, "a - 1 2", 0, of("-", a, num("1")), 3)
	reads(t, "a true", 0, a, 1)
	reads(t, "null null", 1, of("null"), 2)
	reads(t, "a by b", 0, a, 1)
	reads(t, "a else", 0, a, 1)
	reads(t, "a = b 9223372036854775808", 0, of("=", a, b), 3)
	for s, at := range map[string]int{
		"a is": 2, "a is b": 2, "a is not null": 2, "a + , b": 2, "a + )": 2, "a or": 2, "a and and": 2, "( a": 2, "( a , b )": 2, "( a = b = c )": 4, "( )": 1, "not , a": 1, "- , a": 1, ", a": 0, "": 0, "a * ( b": 4, "a = b and": 4, "a = b + , c": 4, "a or b is c": 4,
	} {
		halts(t, words(t, s), 0, at)
		// The same words elsewhere, and with others ahead.
		halts(t, append(words(t, "x or ("), words(t, s)...), 3, at+3)
		halts(t, append(words(t, "not"), words(t, s)...), 0, at+1)
	}
	// Read knows no depth.
	if n, at, e := expr.Read(words(t, times("- ", 100)+"a"), 0); expr.Deep(n) != 101 || at != 101 || e != api.OK {
		t.Errorf("Read of 100 signs: %d, %d, %d", expr.Deep(n), at, e)
	}
}

// P9.1, E1: a place before the first word, and behind the last one, is told as it is.
func TestNoSuchWord(t *testing.T) {
	for _, s := range []string{"", "a", "a + b", "a , (", "not not a or b"} {
		l := words(t, s)
		for _, at := range []int{-1, -2, math.MinInt, len(l), len(l) + 1, len(l) + 100, math.MaxInt, math.MaxInt - 1} {
			halts(t, l, at, at)
			// What lies behind the list's length is none of its words.
			halts(t, append(l, words(t, "a a a a")...)[:len(l)], at, at)
		}
	}
	halts(t, nil, 0, 0)
	halts(t, nil, -1, -1)
	halts(t, words(t, "a + b")[:2], 0, 2)
	if n, at, e := expr.Read(words(t, "a + b")[:1], 0); !like(n, a) || at != 1 || e != api.OK {
		t.Errorf("Read of the first word: %v, %d, %d", n, at, e)
	}
}

// P9.1, E1, P1: words that no text has, made by hand, are none that could stand anywhere.
func TestNoWords(t *testing.T) {
	for _, w := range []lex.Word{
		{}, {Kind: lex.Name}, {Kind: lex.Name, Text: "1"}, {Kind: lex.Name, Text: "_a"}, {Kind: lex.Name, Text: "a b"}, {Kind: lex.Name, Text: " a"}, {Kind: lex.Name, Text: times("x", 21)}, {Kind: lex.Name, Text: "+"}, {Kind: lex.Name, Text: "("}, {Kind: lex.Name, Text: "'a'"}, {Kind: lex.Name, Text: "é"},
		{Kind: lex.Figure}, {Kind: lex.Figure, Text: "-1"}, {Kind: lex.Figure, Text: "+1"}, {Kind: lex.Figure, Text: "1_0"}, {Kind: lex.Figure, Text: "0x1"}, {Kind: lex.Figure, Text: "a"}, {Kind: lex.Figure, Text: times("0", 20)}, {Kind: lex.Figure, Text: "1 "}, {Kind: lex.Figure, Text: "null"}, {Kind: lex.Figure, Text: "("},
		{Kind: lex.Quote, Text: times("x", 201)}, {Kind: lex.Quote, Text: times("'", 1000)},
		{Kind: lex.Mark}, {Kind: lex.Mark, Text: "a"}, {Kind: lex.Mark, Text: "not"}, {Kind: lex.Mark, Text: "null"}, {Kind: lex.Mark, Text: "true"}, {Kind: lex.Mark, Text: "and"}, {Kind: lex.Mark, Text: "1"}, {Kind: lex.Mark, Text: "- "}, {Kind: lex.Mark, Text: "()"},
		{Kind: -1, Text: "a"}, {Kind: 4, Text: "a"}, {Kind: 4, Text: "-"}, {Kind: 4, Text: "null"}, {Kind: math.MaxInt, Text: "1"}, {Kind: math.MinInt},
	} {
		one := []lex.Word{w}
		halts(t, one, 0, 0)
		halts(t, append(words(t, "a +"), w), 0, 2)
		halts(t, append(words(t, "not -"), w), 0, 2)
		halts(t, append(words(t, "(a"), w), 0, 2)
		halts(t, append(words(t, "a is"), w), 0, 2)
		if n, at, e := expr.Read(append(words(t, "a"), w, words(t, "b")[0]), 0); !like(n, a) || at != 1 || e != api.OK {
			t.Errorf("Read(a, %v, b): %v, %d, %d", w, n, at, e)
		}
	}
}

// P9.1, E1: Deep, of nodes of all kinds.
func TestDeep(t *testing.T) {
	for _, k := range []struct {
		n    api.Node
		want int
	}{
		{api.Node{}, 1}, {a, 1}, {api.Node{Op: "+", Kids: []api.Node{}}, 1}, {of("neg", a), 2}, {of("+", a, b), 2}, {of("+", of("neg", a), b), 3}, {of("+", a, of("neg", b)), 3}, {of("*", of("not", of("not", a)), of("neg", b)), 4},
		{of("no Op", a, b, of("neg", c), d), 3}, {of("", of("", of("", api.Node{}))), 4}, {api.Node{Op: "col", Text: "x", Kids: []api.Node{a}}, 2},
	} {
		if m := expr.Deep(k.n); m != k.want {
			t.Errorf("Deep(%v): %d, not %d", k.n, m, k.want)
		}
	}
}

// P9.1, E1: nested 16 deep is right, 17 is not, on each way that goes deeper.
func TestTooDeep(t *testing.T) {
	for n := 1; n <= 40; n++ {
		for _, s := range []string{
			times("- ", n-1) + "a",
			times("-(", n-1) + "a" + times(")", n-1),
			times("not ", n-1) + "a",
			times("not (", n-1) + "1" + times(")", n-1),
			"a" + times(" + b", n-1),
			"a" + times(" * b", n-1),
			"a" + times(" or b", n-1),
			"a" + times(" and b", n-1),
			times("(", n-1) + "a" + times(" is null)", n-1),
			times("(", n-1) + "a" + times(" = b)", n-1),
			times("(b <> ", n-1) + "a" + times(")", n-1),
			times("(b - ", n-1) + "a" + times(")", n-1),
			times("(b or ", n-1) + "null" + times(")", n-1),
			times("((", n-1) + "'x'" + times(") * (a))", n-1),
		} {
			node, at, e := expr.Parse(s)
			if n <= 16 && (e != api.OK || at != 0 || expr.Deep(node) != n) {
				t.Errorf("Parse(%q): %d, %d, deep %d, not %d", s, at, e, expr.Deep(node), n)
			}
			if n > 16 {
				wrong(t, s, 0, api.ErrDeep)
				wrong(t, "a + ("+s+")", 0, api.ErrDeep)
				wrong(t, "("+s+") is null", 0, api.ErrDeep)
			}
		}
	}
	wrong(t, times("-", 16)+"1", 0, api.ErrDeep)
	wrong(t, " \n"+times("-", 16)+"1", 0, api.ErrDeep)
}
