package eval_test

import (
	"math"
	"testing"

	"instar/api"
)

// P15.1, V4: groups by none, by one, by many; a key has its values in the order of By.
func TestGroup(t *testing.T) {
	db := data("w", item(2, "x", true, 1, int64(9)), item(1, "x", false, 2, int64(9)), item(3, "y", true, 1, int64(4)), item(1, nil, nil, 5, nil), item(1, nil, true, nil, int64(1)))
	for s, want := range map[string]string{
		"n = count()":                  "(8)*1",
		"by g, n = count()":            "(null, 2)*1 ('x', 3)*1 ('y', 3)*1",
		"by j, n = count()":            "(null, 1)*1 (1, 1)*1 (4, 3)*1 (9, 3)*1",
		"by h g, n = count()":          "(null, null, 1)*1 (false, 'x', 1)*1 (true, null, 1)*1 (true, 'x', 2)*1 (true, 'y', 3)*1",
		"by g h i j, n = count()":      "(null, null, 5, null, 1)*1 (null, true, null, 1, 1)*1 ('x', false, 2, 9, 1)*1 ('x', true, 1, 9, 2)*1 ('y', true, 1, 4, 3)*1",
		"n = sum(i), m = sum(j)":       "(12, 40)*1",
		"n = min(i), m = max(i)":       "(1, 5)*1",
		"n = min(g), m = max(g)":       "('x', 'y')*1",
		"n = min(h), m = max(h)":       "(false, true)*1",
		"n = min(j), m = max(j)":       "(1, 9)*1",
		"by g, m = max(h), l = min(h)": "(null, true, true)*1 ('x', true, false)*1 ('y', true, true)*1",
		"by g, s = sum(i), n = count(), l = min(j), m = max(i), o = count()": "(null, 5, 2, 1, 5, 2)*1 ('x', 4, 3, 9, 2, 3)*1 ('y', 3, 3, 4, 1, 3)*1",
		"by i, s = sum(i), m = max(i)":                                       "(null, null, null)*1 (1, 5, 1)*1 (2, 2, 2)*1 (5, 5, 5)*1",
		"by h, s = sum(j)":                                                   "(null, null)*1 (false, 9)*1 (true, 31)*1",
	} {
		comes(t, "group(w, "+s+")", want, db)
	}
}

// P15.1, V4: a key is there, if its rows' weights, taken together, are above 0.
func TestKeys(t *testing.T) {
	s := "group(t, by a, n = count(), m = min(b))"
	comes(t, s, "(1, 1, 5)*1", data("t", item(2, 1, int64(5)), item(-1, 1, int64(6))))
	comes(t, s, "", data("t", item(2, 1, int64(5)), item(-2, 1, int64(6))))
	comes(t, s, "", data("t", item(2, 1, int64(5)), item(-3, 1, int64(6))))
	comes(t, s, "(2, 1, null)*1", data("t", item(2, 1, int64(5)), item(-2, 1, int64(6)), item(1, 2, nil), item(-1, 3, nil), item(-1, nil, int64(5))))
	comes(t, s, "(1, 9223372036854775807, null)*1", data("t", item(top, 1, nil)))
	comes(t, s, "", data("t", item(bottom, 1, nil)))
	comes(t, s, "", data("t", item(top, 1, nil), item(bottom, 1, int64(7))))
	comes(t, s, "(1, 1, -3)*1", data("t", item(top, 1, int64(-3)), item(-top+1, 1, int64(-4))))
	comes(t, "group(t, n = count())", "", data("t", item(1, 1, nil), item(-1, 2, nil)))
	comes(t, "group(t, n = count())", "", data("t", item(1, 1, nil), item(-2, 2, nil)))
	comes(t, "group(t, n = count())", "(1)*1", data("t", item(2, 1, nil), item(-1, 2, nil)))
	comes(t, "group(n, n = count())", "")
	// Together the weights may be no number of 64 bits, above and below, where no count is asked for.
	comes(t, "group(t, by a, m = max(b))", "(1, 2)*1", data("t", item(top, 1, int64(1)), item(top, 1, int64(2)), item(bottom, 2, int64(1)), item(bottom, 2, int64(2))))
	comes(t, "group(t, m = max(b))", "(2)*1", data("t", item(top, 1, int64(1)), item(1, 1, int64(2))))
	// Of a key that is not there, nothing is asked: neither a count, nor a weight, nor a sum that is none.
	comes(t, "group(t, by a, n = count(), s = sum(b), m = min(b))", "(2, 1, 0, 0)*1", data("t", item(bottom, 1, int64(1)), item(-1, 1, int64(2)), item(1, 2, int64(0))))
	comes(t, "group(w, by g, s = sum(i), m = min(i))", "", data("w", item(top, "", true, 1, nil), item(top, "", false, 1, nil), item(bottom, "", true, 2, nil), item(bottom, "", false, 2, nil)))
	comes(t, "group(t, s = sum(b))", "", data("t", item(2, 1, int64(top)), item(-2, 1, int64(0))))
}

// P15.1, V4: what an Agg tells of null alone, and of values whose weights are 0, or below.
func TestAggsOfNone(t *testing.T) {
	s := "group(t, n = count(), s = sum(b), l = min(b), m = max(b))"
	comes(t, s, "(3, null, null, null)*1", data("t", item(2, 1, nil), item(1, 2, nil)))
	// A value with a weight below 0 is neither the least nor the greatest, and makes no sum; but it is in one that another value makes.
	comes(t, s, "(1, null, null, null)*1", data("t", item(3, 1, nil), item(-2, 2, int64(7))))
	comes(t, s, "(5, -12, 4, 5)*1", data("t", item(3, 1, int64(4)), item(1, 1, int64(5)), item(-2, 2, int64(3)), item(-1, 2, int64(23)), item(4, 2, nil)))
	comes(t, s, "(1, 11, 3, 3)*1", data("t", item(3, 1, int64(3)), item(-1, 1, int64(1)), item(-1, 1, int64(-3))))
	comes(t, s, "(3, 6, 6, 6)*1", data("t", item(-2, 1, int64(0)), item(1, 1, int64(6)), item(-2, 2, int64(0)), item(6, 2, nil)))
	// A value's weights are those of all the key's rows with it.
	comes(t, s, "(2, 10, 5, 5)*1", data("t", item(3, 1, int64(5)), item(-1, 2, int64(5)), item(1, 1, int64(2)), item(-1, 2, int64(2))))
	comes(t, s, "(1, null, null, null)*1", data("t", item(1, 1, int64(5)), item(-1, 2, int64(5)), item(1, 1, nil)))
	comes(t, "group(t, by a, l = min(b), m = max(b), s = sum(b))", "(1, 5, 5, 5)*1 (2, 2, 5, 7)*1", data("t", item(1, 1, int64(5)), item(1, 2, int64(5)), item(1, 2, int64(2)), item(-1, 3, int64(5))))
	// A null's weights are nobody's: they may be no number of 64 bits.
	comes(t, "group(t, s = sum(b), l = min(b), m = max(b))", "(7, 7, 7)*1", data("t", item(top, 1, nil), item(top, 2, nil), item(1, 3, int64(7))))
	comes(t, "group(t, s = sum(b), l = min(b), m = max(b))", "(null, null, null)*1", data("t", item(top, 1, nil), item(top, 2, nil), item(bottom, 3, int64(7))))
}

// P15.1, V4: sums, and counts, that are only just numbers of 64 bits, and that are none.
func TestSums(t *testing.T) {
	s := "group(t, s = sum(b))"
	comes(t, s, "(9223372036854775807)*1", data("t", item(1, 1, int64(top))))
	comes(t, s, "(-9223372036854775808)*1", data("t", item(1, 1, int64(bottom))))
	comes(t, s, "(9223372036854775807)*1", data("t", item(1, 1, int64(top)), item(1, 1, int64(0))))
	comes(t, s, "(9223372036854775807)*1", data("t", item(1, 1, int64(top-1)), item(1, 1, int64(1))))
	comes(t, s, "(-9223372036854775808)*1", data("t", item(1, 1, int64(bottom+1)), item(1, 1, int64(-1))))
	comes(t, s, "(-9223372036854775808)*1", data("t", item(1<<62, 1, int64(-2))))
	comes(t, s, "(9223372036854775807)*1", data("t", item(top, 1, int64(1))))
	comes(t, s, "(-9223372036854775808)*1", data("t", item(bottom, 1, int64(1)), item(1, 1, int64(0)), item(top, 1, nil), item(1, 2, nil)))
	comes(t, s, "(-9223372036854775807)*1", data("t", item(bottom, 1, int64(1)), item(1, 1, int64(1)), item(1, 1, int64(0)), item(top, 1, nil)))
	wrong(t, s, api.ErrOver, data("t", item(1, 1, int64(top)), item(1, 1, int64(1))))
	wrong(t, s, api.ErrOver, data("t", item(1, 1, int64(bottom)), item(1, 1, int64(-1))))
	wrong(t, s, api.ErrOver, data("t", item(2, 1, int64(1<<62))))
	wrong(t, s, api.ErrOver, data("t", item(1, 1, int64(0)), item(bottom, 1, int64(-1)), item(top, 1, nil), item(1, 2, nil)))
	wrong(t, s, api.ErrOver, data("t", item(top, 1, int64(top))))
	wrong(t, s, api.ErrOver, data("t", item(top, 1, int64(bottom))))
	// On the way a sum may be none.
	comes(t, s, "(-1)*1", data("t", item(1, 1, int64(top)), item(1, 2, int64(bottom)), item(1, 1, int64(5)), item(-1, 2, int64(5))))
	comes(t, s, "(0)*1", data("t", item(top, 1, int64(top)), item(top, 1, int64(-top))))
	comes(t, s, "(1)*1", data("t", item(top, 1, int64(top)), item(top, 1, int64(-top)), item(1, 1, int64(1))))
	comes(t, "group(w, s = sum(i))", "(2147483648)*1", data("w", item(1, "", true, math.MaxInt32, nil), item(1, "", true, 1, nil)))
	comes(t, "group(w, s = sum(i))", "(-2147483650)*1", data("w", item(1, "", true, math.MinInt32, nil), item(1, "", true, -2, nil)))
	comes(t, "group(w, s = sum(i))", "(-9223372036854775808)*1", data("w", item(1<<32, "", true, math.MinInt32, nil)))
	wrong(t, "group(w, s = sum(i))", api.ErrOver, data("w", item(1<<32, "", true, math.MinInt32, nil), item(1, "", true, -1, nil)))
	n := "group(t, n = count())"
	comes(t, n, "(9223372036854775807)*1", data("t", item(top-1, 1, nil), item(1, 1, int64(1))))
	comes(t, n, "(9223372036854775807)*1", data("t", item(top, 1, nil), item(1, 1, int64(1)), item(-1, 1, int64(2))))
	wrong(t, n, api.ErrOver, data("t", item(top, 1, nil), item(1, 1, int64(1))))
	wrong(t, n, api.ErrOver, data("t", item(top, 1, nil), item(top, 1, int64(1)), item(top, 1, int64(2)), item(bottom, 1, int64(3))))
}

// P15.1, V4: a value's weights, taken together, that are only just a number of 64 bits, and that are none, whichever Agg asks for them.
func TestWeights(t *testing.T) {
	for _, s := range []string{"l = min(b)", "l = max(b)"} {
		comes(t, "group(t, "+s+")", "(5)*1", data("t", item(top-1, 1, int64(5)), item(1, 2, int64(5))))
		comes(t, "group(t, "+s+")", "(5)*1", data("t", item(top, 1, int64(5)), item(1, 2, int64(5)), item(-1, 3, int64(5))))
		comes(t, "group(t, "+s+")", "(6)*1", data("t", item(bottom+1, 1, int64(5)), item(-1, 2, int64(5)), item(top, 1, int64(6)), item(2, 1, nil)))
		wrong(t, "group(t, "+s+")", api.ErrOver, data("t", item(top, 1, int64(5)), item(1, 2, int64(5))))
		wrong(t, "group(t, "+s+")", api.ErrOver, data("t", item(bottom, 1, int64(5)), item(-1, 2, int64(5)), item(top, 1, int64(6)), item(top, 1, nil)))
	}
	comes(t, "group(t, s = sum(b))", "(0)*1", data("t", item(top-1, 1, int64(0)), item(1, 2, int64(0))))
	wrong(t, "group(t, s = sum(b))", api.ErrOver, data("t", item(top, 1, int64(0)), item(1, 2, int64(0))))
	wrong(t, "group(t, s = sum(b))", api.ErrOver, data("t", item(bottom, 1, int64(0)), item(-1, 2, int64(0)), item(top, 1, int64(1)), item(top, 1, nil)))
	// No value has a weight above 0: there is no sum, but the weight that is none is told.
	wrong(t, "group(t, s = sum(b))", api.ErrOver, data("t", item(bottom, 1, int64(0)), item(-1, 2, int64(0)), item(top, 1, nil), item(top, 2, nil)))
	// A count asks for no value's weights.
	comes(t, "group(t, n = count())", "(1)*1", data("t", item(top, 1, int64(5)), item(top, 2, int64(5)), item(bottom, 1, int64(6)), item(-top+2, 2, int64(6))))
}

// P15.1, V4: sums are counted in numbers of 128 bits, which wrap round (2).
func TestSumsWrap(t *testing.T) {
	db := data("t", item(bottom, 1, int64(bottom)), item(bottom, 1, int64(bottom+1)), item(bottom, 1, int64(bottom+2)), item(bottom, 1, int64(bottom+3)), item(bottom, 1, int64(-6)), item(1, 1, int64(7)),
		item(top, 1, nil), item(top, 2, nil), item(top, 3, nil), item(top, 4, nil), item(top, 5, nil), item(top, 6, nil))
	comes(t, "group(t, s = sum(b))", "(7)*1", db)
	wrong(t, "group(t, s = sum(b))", api.ErrOver, data("t", db.Items[1:]...))
}
