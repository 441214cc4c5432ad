package lex

import (
	"math"
	"regexp"
	"slices"
	"strings"
	"testing"

	"instar/api"
)

// Short forms of words, and of texts.
func name(s string, at int) Word    { return Word{Name, s, at} }
func number(s string, at int) Word  { return Word{Figure, s, at} }
func quoting(s string, at int) Word { return Word{Quote, s, at} }
func mark(s string, at int) Word    { return Word{Mark, s, at} }
func list(l ...Word) []Word         { return l }
func times(s string, n int) string  { return strings.Repeat(s, n) }
func quotes(s string) string        { return "'" + s + "'" }

// bytes is a text of all bytes, in order.
func bytes() string {
	var l []byte
	for c := range 256 {
		l = append(l, byte(c))
	}
	return string(l)
}

// bare is words without where they begin.
func bare(l []Word) []Word { return moved(l, func(int) int { return 0 }) }

// later is words that all begin so much later.
func later(l []Word, n int) []Word { return moved(l, func(at int) int { return at + n }) }

// moved is words that begin elsewhere.
func moved(l []Word, at func(int) int) []Word {
	l = slices.Clone(l)
	for i := range l {
		l[i].At = at(l[i].At)
	}
	return l
}

// cut is a text that is short enough to be told.
func cut(s string) string { return s[:min(len(s), 300)] }

// told asks for a text's words, and looks for what else stands beside an error, or beside none.
func told(t *testing.T, s string) ([]Word, int, api.Errno) {
	t.Helper()
	l, at, e := Words(s)
	if e == api.OK && at != 0 || e != api.OK && len(l) != 0 || e != api.OK && e != api.ErrLex {
		t.Errorf("Words(%q): %v, %d, %d", cut(s), l, at, e)
	}
	return l, at, e
}

// are holds a text's words against those that it should have.
func are(t *testing.T, s string, want ...Word) {
	t.Helper()
	if l, at, e := told(t, s); e != api.OK || !slices.Equal(l, want) {
		t.Errorf("Words(%q): %v, %d, %d, not %v", cut(s), l, at, e, want)
	}
}

// wrong holds the place of a text's fault against that which it should have.
func wrong(t *testing.T, s string, want int) {
	t.Helper()
	if l, at, e := told(t, s); e != api.ErrLex || at != want {
		t.Errorf("Words(%q): %v, %d, %d, not ErrLex at %d", cut(s), l, at, e, want)
	}
}

// Parts of the document's words, for model: a quote is read on as far as it can be; if a ' is behind it then, it was the first of two, and there is no end.
var (
	isBlanks = regexp.MustCompile(`^[ \t\n]+`)
	isName   = regexp.MustCompile(`^[a-zA-Z][a-zA-Z0-9_]*`)
	isFigure = regexp.MustCompile(`^[0-9]+`)
	isQuote  = regexp.MustCompile(`^'([^']|'')*'`)
	isMark   = regexp.MustCompile(`^(<=|>=|<>|[(),=<>+*-])`)
)

// model is what Words answers, by the document's words.
func model(s string) ([]Word, int, api.Errno) {
	var l []Word
	for at := 0; at < len(s); {
		rest := s[at:]
		w := Word{At: at}
		n := 0
		if b := isBlanks.FindString(rest); b != "" {
			at += len(b)
			continue
		} else if m := isName.FindString(rest); m != "" && len(m) <= 20 {
			w.Kind, w.Text, n = Name, m, len(m)
		} else if m := isFigure.FindString(rest); m != "" && len(m) <= 19 {
			w.Kind, w.Text, n = Figure, m, len(m)
		} else if m := isQuote.FindString(rest); m != "" && !strings.HasPrefix(rest[len(m):], "'") {
			text := strings.Join(strings.Split(m[1:len(m)-1], "''"), "'")
			if len(text) <= 200 {
				w.Kind, w.Text, n = Quote, text, len(m)
			}
		} else if m := isMark.FindString(rest); m != "" {
			w.Kind, w.Text, n = Mark, m, len(m)
		}
		if n == 0 {
			return nil, at, api.ErrLex
		}
		l = append(l, w)
		at += n
	}
	return l, 0, api.OK
}

// like holds what Words answers against model.
func like(t *testing.T, s string) {
	t.Helper()
	l, at, e := told(t, s)
	if k, place, f := model(s); !slices.Equal(l, k) || at != place || e != f {
		t.Errorf("Words(%q): %v, %d, %d, not %v, %d, %d", s, l, at, e, k, place, f)
	}
}

// each calls f with all texts of at most n of these parts.
func each(n int, parts []string, f func(s string)) {
	f("")
	if n == 0 {
		return
	}
	for _, p := range parts {
		each(n-1, parts, func(s string) { f(p + s) })
	}
}

// P8.1, L1: the kinds are counted from 0 on.
func TestKinds(t *testing.T) {
	if Name != 0 || Figure != 1 || Quote != 2 || Mark != 3 {
		t.Errorf("kinds: %d, %d, %d, %d", Name, Figure, Quote, Mark)
	}
}

// P8.1, L1: Words, with all kinds, where they begin, and what stands beside what.
func TestWords(t *testing.T) {
	are(t, "a_1<='it''s' 07", name("a_1", 0), mark("<=", 3), quoting("it's", 5), number("07", 13))
	are(t, "a", name("a", 0))
	are(t, "group(t, by b, n = count())",
		name("group", 0), mark("(", 5), name("t", 6), mark(",", 7), name("by", 9), name("b", 12), mark(",", 13),
		name("n", 15), mark("=", 17), name("count", 19), mark("(", 24), mark(")", 25), mark(")", 26))
	are(t, "not a is null or true", name("not", 0), name("a", 4), name("is", 6), name("null", 9), name("or", 14), name("true", 17))
	are(t, "a-1", name("a", 0), mark("-", 1), number("1", 2))
	wrong(t, "12ab34 5_", 8)
	are(t, "12ab 3A4", number("12", 0), name("ab", 2), number("3", 5), name("A4", 6))
	are(t, "a'b'c", name("a", 0), quoting("b", 1), name("c", 4))
	are(t, "1'2'3'4'", number("1", 0), quoting("2", 1), number("3", 4), quoting("4", 5))
	are(t, "'a' 'b'", quoting("a", 0), quoting("b", 4))
	are(t, "'a'<'b'", quoting("a", 0), mark("<", 3), quoting("b", 4))
	are(t, "azAZ09_ Z_ z__9", name("azAZ09_", 0), name("Z_", 8), name("z__9", 11))
}

// P8.1, L1: no text, and blanks alone, have no words; blanks stand ahead of words, between them, or behind them.
func TestBlanks(t *testing.T) {
	for _, s := range []string{"", " ", "\t", "\n", " \t\n \n\t ", times(" ", 1000), times("\n", 1000)} {
		are(t, s)
		are(t, s+"a", name("a", len(s)))
		are(t, "a"+s, name("a", 0))
		are(t, s+"("+s+"7"+s+"'x'"+s, mark("(", len(s)), number("7", 2*len(s)+1), quoting("x", 3*len(s)+2))
		wrong(t, s+"!", len(s))
		wrong(t, "a"+s+"!"+s, len(s)+1)
	}
	are(t, "a b", name("a", 0), name("b", 2))
	are(t, "1 2", number("1", 0), number("2", 2))
	are(t, "< =", mark("<", 0), mark("=", 2))
	are(t, "<\t>\n=", mark("<", 0), mark(">", 2), mark("=", 4))
	are(t, "' \t\n' ' '", quoting(" \t\n", 0), quoting(" ", 6))
}

// P8.1, L1: names of up to 20 bytes; a longer one is none, and is not cut.
func TestNames(t *testing.T) {
	for n := 1; n <= 20; n++ {
		for _, s := range []string{times("a", n), times("Z", n), "a" + times("9", n-1), "z" + times("_", n-1), ("A_0z" + times("q_Q7", 5))[:n]} {
			are(t, s, name(s, 0))
			are(t, "("+s+")", mark("(", 0), name(s, 1), mark(")", n+1))
			are(t, s+" "+s, name(s, 0), name(s, n+1))
			are(t, "1"+s+"'"+s+"'"+s, number("1", 0), name(s, 1), quoting(s, n+1), name(s, 2*n+3))
		}
	}
	for _, n := range []int{21, 22, 40, 41, 1000} {
		for _, s := range []string{times("a", n), "a" + times("9", n-1), "a" + times("_", n-1)} {
			wrong(t, s, 0)
			wrong(t, " \n"+s+" ", 2)
			wrong(t, "(a, "+s+")", 4)
			wrong(t, "12"+s+"!", 2)
			wrong(t, "! "+s, 0)
		}
	}
	for _, s := range []string{"_", "_a", "__", "_1"} {
		wrong(t, s, 0)
		wrong(t, "1"+s, 1)
		wrong(t, "a "+s, 2)
		wrong(t, "<"+s, 1)
	}
	// Each letter, and each byte about them in order.
	for c := 0; c < 256; c++ {
		b := string([]byte{byte(c)})
		letter := 'a' <= c && c <= 'z' || 'A' <= c && c <= 'Z'
		if letter {
			are(t, b, name(b, 0))
		}
		if letter || '0' <= c && c <= '9' || c == '_' {
			are(t, "a"+b+"z", name("a"+b+"z", 0))
		} else if l, _, _ := Words("a" + b + "z"); len(l) == 1 {
			t.Errorf("Words(%q): %v", "a"+b+"z", l)
		}
	}
}

// P8.1, L1: figures, up to 19; more are none, and are not cut, whatever number they are.
func TestFigures(t *testing.T) {
	for n := 1; n <= 19; n++ {
		for _, s := range []string{times("0", n), times("9", n), "1" + times("0", n-1), ("1234567890" + "123456789")[:n], times("0", n-1) + "7"} {
			are(t, s, number(s, 0))
			are(t, "-"+s+"*"+s, mark("-", 0), number(s, 1), mark("*", n+1), number(s, n+2))
			are(t, s+"a", number(s, 0), name("a", n))
		}
	}
	for _, n := range []int{20, 21, 38, 1000} {
		for _, s := range []string{times("0", n), times("9", n), times("0", n-1) + "1"} {
			wrong(t, s, 0)
			wrong(t, "1 "+s, 2)
			wrong(t, "a<"+s+" ", 2)
			wrong(t, "'x'"+s+"a", 3)
		}
	}
	are(t, "9223372036854775807 9223372036854775808", number("9223372036854775807", 0), number("9223372036854775808", 20))
	are(t, "a"+times("1", 19), name("a"+times("1", 19), 0))
	wrong(t, "1_", 1)
	wrong(t, "1.5", 1)
	are(t, "0123456789", number("0123456789", 0))
}

// P8.1, L1: quotes, with ' among their bytes, with any byte, and with up to 200 bytes, each ' among them counted once.
func TestQuotes(t *testing.T) {
	for s, text := range map[string]string{
		"''": "", "''''": "'", "''''''": "''", "'a'": "a", "'''a'": "'a", "'a'''": "a'", "'a''b'": "a'b", "'''a''''b'''": "'a''b'", "' '": " ", "'a\nb'": "a\nb",
		"'!#_'": "!#_", "'\"'": "\"", "'\\'": "\\", "'\x00'": "\x00", "'é\xff\x80'": "é\xff\x80", "'\r\n'": "\r\n", "'<='": "<=", "'-- a'": "-- a",
	} {
		are(t, s, quoting(text, 0))
		are(t, "(a, "+s+")", mark("(", 0), name("a", 1), mark(",", 2), quoting(text, 4), mark(")", 4+len(s)))
		are(t, s+" "+s, quoting(text, 0), quoting(text, len(s)+1))
		are(t, "a"+s+"1", name("a", 0), quoting(text, 1), number("1", len(s)+1))
	}
	every := bytes()
	twice := strings.ReplaceAll(every, "'", "''")
	are(t, quotes(twice[:150]), quoting(every[:149], 0))
	are(t, quotes(twice[130:]), quoting(every[129:], 0))
	for _, n := range []int{0, 1, 100, 199, 200} {
		for _, c := range []string{"x", "\x00", "\xff", " "} {
			are(t, quotes(times(c, n)), quoting(times(c, n), 0))
		}
		are(t, quotes(times("''", n)), quoting(times("'", n), 0))
		are(t, quotes(times("a", n/2)+times("''", n-n/2))+"b", quoting(times("a", n/2)+times("'", n-n/2), 0), name("b", n+n-n/2+2))
		are(t, quotes(times("é", n/2)), quoting(times("é", n/2), 0))
	}
	for _, n := range []int{201, 202, 400, 401, 5000} {
		for _, s := range []string{quotes(times("x", n)), quotes(times("''", n)), quotes(times("''", n-1) + "x"), quotes(times("é", n/2) + "ab")} {
			wrong(t, s, 0)
			wrong(t, "a "+s, 2)
			wrong(t, "'x' "+s+" !", 4)
		}
	}
	are(t, quotes(times("x", 199)+"''"), quoting(times("x", 199)+"'", 0))
	wrong(t, quotes(times("x", 200)+"''"), 0)
}

// P8.1, L1: a quote without an end goes wrong where it begins.
func TestNoEnd(t *testing.T) {
	for _, s := range []string{"'", "'a", "'a b ", "'''", "'a''", "'a''b", "''''' ", "'''''", "'a\n", "'\x00", "'" + times("x", 200), "'" + times("x", 201), "'" + times("''", 100), "'" + times("a'' ", 100)} {
		wrong(t, s, 0)
		wrong(t, "a  "+s, 3)
		wrong(t, "\n"+s, 1)
		wrong(t, "'b' "+s, 4)
		wrong(t, "12<="+s, 4)
	}
	wrong(t, "'a'b'", 4)
	wrong(t, "'a' '", 4)
	wrong(t, "'a'' 'b'", 7)
	wrong(t, "a'", 1)
}

// P8.1, L1: marks, two bytes ahead of one, alone, in a row, and at the end.
func TestMarks(t *testing.T) {
	marks := []string{"(", ")", ",", "=", "<", ">", "+", "-", "*", "<=", ">=", "<>"}
	for _, m := range marks {
		are(t, m, mark(m, 0))
		are(t, "a"+m, name("a", 0), mark(m, 1))
		are(t, m+"a", mark(m, 0), name("a", len(m)))
		are(t, "1 "+m+" 'x'", number("1", 0), mark(m, 2), quoting("x", 3+len(m)))
		are(t, m+" ", mark(m, 0))
		wrong(t, m+"!", len(m))
		for _, k := range marks {
			are(t, m+" "+k, mark(m, 0), mark(k, len(m)+1))
			// Two bytes that are a mark together are not two marks.
			if len(m) == 2 || !slices.Contains(marks, (m + k)[:2]) {
				are(t, m+k, mark(m, 0), mark(k, len(m)))
			}
		}
	}
	are(t, "<=>", mark("<=", 0), mark(">", 2))
	are(t, "<>=", mark("<>", 0), mark("=", 2))
	are(t, "<<=", mark("<", 0), mark("<=", 1))
	are(t, "<<>", mark("<", 0), mark("<>", 1))
	are(t, ">>=", mark(">", 0), mark(">=", 1))
	are(t, "><", mark(">", 0), mark("<", 1))
	are(t, ">==", mark(">=", 0), mark("=", 2))
	are(t, "==", mark("=", 0), mark("=", 1))
	are(t, "=<=>", mark("=", 0), mark("<=", 1), mark(">", 3))
	are(t, "=>", mark("=", 0), mark(">", 1))
	are(t, "--", mark("-", 0), mark("-", 1))
	are(t, "*-+", mark("*", 0), mark("-", 1), mark("+", 2))
	are(t, "((),,))", mark("(", 0), mark("(", 1), mark(")", 2), mark(",", 3), mark(",", 4), mark(")", 5), mark(")", 6))
	var row []Word
	for i := range 500 {
		row = append(row, mark("<>", 2*i))
	}
	are(t, times("<>", 500), row...)
	are(t, times("<>", 500)+"<", append(row, mark("<", 1000))...)
}

// P8.1, L1: each byte that begins no word, at the beginning, in the middle, and at the end, stands where the fault is.
func TestNoWord(t *testing.T) {
	begins := "abcdefghijklmnopqrstuvwxyzABCDEFGHIJKLMNOPQRSTUVWXYZ0123456789(),=<>+-* \t\n"
	for c := 0; c < 256; c++ {
		b := string([]byte{byte(c)})
		if strings.Contains(begins, b) {
			if _, at, e := told(t, b); e != api.OK || at != 0 {
				t.Errorf("Words(%q): %d, %d", b, at, e)
			}
			continue
		}
		wrong(t, b, 0)
		wrong(t, b+" a", 0)
		wrong(t, "\t \n"+b, 3)
		wrong(t, "a "+b+" c", 2)
		wrong(t, "1"+b, 1)
		wrong(t, "1, "+b, 3)
		wrong(t, "<"+b, 1)
		wrong(t, "a ="+b+" ", 3)
		if c != '\'' {
			wrong(t, "'a'"+b, 3)
			wrong(t, b+b+"'", 0)
		}
		if c != '_' {
			wrong(t, "ab"+b, 2)
			wrong(t, "ab"+b+"cd", 2)
		}
	}
	for _, s := range []string{"é", "日本", "ａ", "a\u00a0b"[1:], "\u2003", "\ufeffa", "٣", "≤", "\r", "\v", "\f", "\x85", "_", "\"a\"", "/", ";", "!=", "a.b"[1:], "%", "\x00", "\x7f"} {
		wrong(t, s, 0)
		wrong(t, "x "+s, 2)
	}
}

// P8.1, L1: Words, held against the document's words over all short texts of some alphabets.
func TestExact(t *testing.T) {
	for _, c := range []struct {
		n     int
		parts []string
	}{
		{7, []string{"'", "a", " "}},
		{6, []string{"<", ">", "=", "-", " "}},
		{5, []string{"a", "Z", "0", "_", "'", " "}},
		{4, []string{"a", "9", "_", "'", "<", ">", "=", "(", "\n", "!", "\x00", "\xff"}},
		{4, []string{times("a", 10), times("0", 9), "b", "7", "_", " ", "'"}},
		{5, []string{times("x", 99), times("''", 50), "''", "'", "y", " "}},
	} {
		each(c.n, c.parts, func(s string) { like(t, s) })
	}
	u := uint64(1)
	for n := range 3000 {
		b := make([]byte, n%90)
		for i := range b {
			u = u*6364136223846793005 + 1442695040888963407
			b[i] = byte(u >> 56)
			if u>>40&7 > 0 {
				b[i] = "ab_09 '<>=(),+-*"[u>>48&15]
			}
		}
		like(t, string(b))
	}
}

// P8.1, L1: Text, of words that a text has, of others, and of none.
func TestText(t *testing.T) {
	for _, c := range []struct {
		want string
		l    []Word
	}{
		{"", nil}, {"", list()},
		{"a", list(name("a", 0))}, {"a b", list(name("a", 7), name("b", 3))}, {"a_1 <= 'it''s' 07", list(name("a_1", 0), mark("<=", 3), quoting("it's", 5), number("07", 13))},
		{"''", list(quoting("", 0))}, {"''''", list(quoting("'", 0))}, {"'''a''''b'''", list(quoting("'a''b'", 0))}, {"' ' '\n'", list(quoting(" ", 0), quoting("\n", 0))}, {"'\x00\xffé'", list(quoting("\x00\xffé", -1))},
		{quotes(times("x", 200)), list(quoting(times("x", 200), 0))}, {quotes(times("''", 200)), list(quoting(times("'", 200), 0))},
		{"( ) , = < > + - * <= >= <>", list(mark("(", 0), mark(")", 0), mark(",", 0), mark("=", 0), mark("<", 0), mark(">", 0), mark("+", 0), mark("-", 0), mark("*", 0), mark("<=", 0), mark(">=", 0), mark("<>", 0))},
		{"1 - 2", list(number("1", 0), mark("-", 1), number("2", 2))},
		// Words that no text has stand as they are; what is no text value is shown as layer 3 does.
		{"?", list(quoting(times("x", 201), 0))}, {"a ? b", list(name("a", 0), quoting(times("'", 201), 0), name("b", 0))},
		{"", list(name("", 0))}, {" ", list(name("", 0), mark("", 0))}, {"  x", list(number("", 0), Word{}, mark("x", 0))},
		{"it's", list(name("it's", 0))}, {"it's", list(Word{Kind(4), "it's", 0})}, {"'", list(Word{Kind(-1), "'", 0})}, {"! 'a' x'", list(mark("!", 0), Word{Kind(math.MaxInt), "'a'", math.MinInt}, number("x'", 0))},
		{times("z", 300), list(name(times("z", 300), 0))},
	} {
		if s := Text(c.l...); s != c.want {
			t.Errorf("Text(%v): %q, not %q", c.l, s, c.want)
		}
	}
	if s := Text(); s != "" {
		t.Errorf("Text(): %q", s)
	}
	if s := Text(slices.Repeat(list(name("a", 0)), 1000)...); s != strings.TrimSuffix(times("a ", 1000), " ") {
		t.Errorf("Text of 1000 words: %q", s)
	}
}

// P8.1, L1: Own, of the seven names alone, as they are written.
func TestOwnNames(t *testing.T) {
	own := []string{"true", "false", "null", "and", "or", "not", "is"}
	for _, s := range own {
		if !Own(s) {
			t.Errorf("Own(%q): false", s)
		}
		for _, k := range []string{strings.ToUpper(s), strings.ToUpper(s[:1]) + s[1:], s + " ", " " + s, s + s, s[1:], s[:len(s)-1], s + "_", quotes(s), s + "\x00", s + " " + s} {
			if Own(k) && !slices.Contains(own, k) {
				t.Errorf("Own(%q): true", k)
			}
		}
	}
	for _, s := range []string{"", " ", "by", "a", "filter", "count", "sum", "create", "table", "bool", "int32", "text", "where", "to", "from", "in", "if", "nil", "no", "True", "NULL", "xor", "isnull", "true false null and or not is", "?", "'", "0", "1", "\xff", times("null", 1000)} {
		if Own(s) {
			t.Errorf("Own(%q): true", s)
		}
	}
}

// back holds the words of words' text against the words.
func back(t *testing.T, l []Word) {
	t.Helper()
	s := Text(l...)
	k, at, e := told(t, s)
	if e != api.OK || !slices.Equal(bare(k), bare(l)) {
		t.Errorf("Words(%q): %v, %d, %d, not those of %v", s, k, at, e, l)
	}
	// Of the text's words it is the text again; and each word stands where it is shown.
	if Text(k...) != s {
		t.Errorf("Text(%v): %q, not %q", k, Text(k...), s)
	}
	for i, w := range k {
		if ahead := Text(k[:i]...); w.At != len(ahead)+min(i, 1) || !strings.HasPrefix(s[w.At:], Text(w)) {
			t.Errorf("Words(%q): %v does not stand there", s, w)
		}
	}
}

// P8.2: the Text of a text's words has the same words again, but for where they stand.
func TestAgain(t *testing.T) {
	for _, s := range []string{
		"", " \n", "a_1<='it''s' 07", "group(t,by b,n=count())", "< = <= > = >= <> < > -- - -", "''''''''", "'' '' ''", "'a''b'c'd'", "12ab34 000 00a", " \ta\n'\n \t'",
		"filter(join(t,u,a=b),a-(b- -3)*2>='x y'or not c is null)", quotes(times("x", 200)), quotes(times("''", 200)), times("a", 20) + " " + times("9", 19), times("(", 300) + times(")", 300),
	} {
		l, _, e := told(t, s)
		if e != api.OK {
			t.Errorf("Words(%q): %d", s, e)
		}
		back(t, l)
	}
	for _, parts := range [][]string{{"a", "0", "_", "'", " ", "<", ">", "="}, {"''", "'", "b", "-", "(", "\n", "7", "\xff"}} {
		each(4, parts, func(s string) {
			if l, _, e := Words(s); e == api.OK {
				back(t, l)
			}
		})
	}
	some := list(name("a", 0), name("Z_9", 0), name("null", 0), number("0", 0), number("007", 0), quoting("", 0), quoting("'", 0), quoting("a 'b'\n", 0), mark("<", 0), mark(">", 0), mark("=", 0), mark("<=", 0), mark(">=", 0), mark("<>", 0), mark("-", 0), mark("(", 0))
	for _, a := range some {
		for _, b := range some {
			back(t, list(a, b))
			for _, c := range some {
				back(t, later(list(a, b, c), 5))
			}
		}
	}
}

// P8.1, P2: where the text begins with other words, the same words come behind them; what goes wrong in a text goes wrong there too, behind a blank.
func TestBehind(t *testing.T) {
	for _, ahead := range []string{"a ", "1 ", "'x' ", "< ", "\n", "a, (b) <> 'it''s' "} {
		there, _, _ := Words(ahead)
		each(4, []string{"a", "0", "'", "<", "=", " ", "!", times("b", 20)}, func(s string) {
			l, at, e := told(t, s)
			k, place, f := told(t, ahead+s)
			if e != f || e == api.OK && !slices.Equal(k, append(slices.Clone(there), later(l, len(ahead))...)) || e != api.OK && place != len(ahead)+at {
				t.Errorf("Words(%q): %v, %d, %d, but of %q %v, %d, %d", s, l, at, e, ahead+s, k, place, f)
			}
		})
	}
}

// Rules 4 and 7: two answers share no list, and words that are handed in stay as they are, and are not kept.
func TestNotShared(t *testing.T) {
	s := "a <= 'it''s' 07"
	l, _, _ := told(t, s)
	k, _, _ := told(t, s)
	want := slices.Clone(k)
	for i := range l {
		l[i] = mark("spoilt", 99)
	}
	_ = append(l, mark("spoilt", 99))
	if !slices.Equal(k, want) {
		t.Errorf("words share memory: %v, not %v", k, want)
	}
	are(t, s, want...)
	whole := append(slices.Clone(want), mark("behind", 1))
	if text := Text(whole[:len(want)]...); text != s || !slices.Equal(whole, append(slices.Clone(want), mark("behind", 1))) {
		t.Errorf("Text: %q, and %v is handed in", text, whole)
	}
}

// P1: each call ends, with long texts too: such as have many words, and such as have none.
func TestLong(t *testing.T) {
	n := 1 << 20
	for _, s := range []string{"a ", "1,", "<>", "'' ", "''a", "\n"} {
		l, _, e := told(t, times(s, n))
		if want, _, _ := model(s); e != api.OK || len(l) != n*len(want) {
			t.Errorf("Words of %d times %q: %d words, %d", n, s, len(l), e)
		}
	}
	wrong(t, times("a", n), 0)
	wrong(t, times("7", n), 0)
	wrong(t, "'"+times("''", n), 0)
	wrong(t, quotes(times("x", n)), 0)
	wrong(t, times("'a' ", n)+"'", 4*n)
	wrong(t, times(" ", n)+"\x00", n)
	if Own(times("a", n)) || Text(quoting(times("a", n), 0)) != "?" || Text(name(times("a", n), 0)) != times("a", n) {
		t.Error("a long name")
	}
}
