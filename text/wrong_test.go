package text_test

import (
	"math"
	"strings"
	"testing"

	"graftwood/api"
	"graftwood/text"
)

// says: both Wrong and Print say that of l.
func says(t *testing.T, l []api.Datum, err api.Errno, at int) {
	t.Helper()
	if f := text.Wrong(l); f != fault(err, at) {
		t.Errorf("Wrong(%s) is %v, not %v", brief(l), f, fault(err, at))
	}
	if err == api.OK {
		return
	}
	if s, f := text.Print(l); f != fault(err, at) || s != "" {
		t.Errorf("Print(%s) is %s %v, not %v", brief(l), brief(s), f, fault(err, at))
	}
}

// wrong: err is said of d by itself, behind others, and within lists.
func wrong(t *testing.T, d api.Datum, err api.Errno) {
	t.Helper()
	says(t, data(d), err, 0)
	says(t, data(num(1), list(sym("a")), d, api.Datum{Kind: 9}), err, 2)
	says(t, data(num(1), list(list(), list(truth(0), d))), err, 1)
}

// right: nothing is said of d, wherever it stands, but of what is wrong behind it.
func right(t *testing.T, d api.Datum) {
	t.Helper()
	says(t, data(d), api.OK, 0)
	says(t, data(num(1), list(list(), list(truth(0), d))), api.OK, 0)
	says(t, data(d, list(d), api.Datum{Kind: 9}), api.ErrKind, 2)
}

func TestA4Kinds(t *testing.T) {
	for kind := -3; kind < 12; kind++ {
		if kind >= api.DNum && kind <= api.DList {
			right(t, api.Datum{Kind: kind, Name: "a"})
		} else {
			wrong(t, api.Datum{Kind: kind, Name: "a"}, api.ErrKind)
		}
	}
	wrong(t, api.Datum{Kind: math.MaxInt}, api.ErrKind)
	wrong(t, api.Datum{Kind: math.MinInt}, api.ErrKind)
}

func TestA4Numbers(t *testing.T) {
	for _, n := range []int64{0, 1, -1, api.MaxInt, -api.MaxInt} {
		right(t, num(n))
	}
	for _, n := range []int64{api.MaxInt + 1, -api.MaxInt - 1, math.MaxInt64, math.MinInt64} {
		wrong(t, num(n), api.ErrRange)
	}
}

func TestA4Truths(t *testing.T) {
	right(t, truth(0))
	right(t, truth(1))
	for _, n := range []int64{-1, 2, 256, math.MaxInt64, math.MinInt64} {
		wrong(t, truth(n), api.ErrRange)
	}
}

func TestA4Symbols(t *testing.T) {
	for _, s := range []string{"a", "-", "...", "set!", strings.Repeat("a", api.MaxName)} {
		right(t, sym(s))
	}
	for _, s := range []string{"", "A", "1", "-1", "a b", "(", "#t", "\xff", strings.Repeat("a", api.MaxName+1)} {
		wrong(t, sym(s), api.ErrName)
	}
	wrong(t, api.Datum{Kind: api.DSym, Name: "a", Stamp: 1}, api.ErrFit)
	wrong(t, api.Datum{Kind: api.DSym, Name: "a", Lib: 1}, api.ErrFit)
	wrong(t, api.Datum{Kind: api.DSym, Name: "a", Stamp: -1, Lib: -1}, api.ErrFit)
	wrong(t, api.Datum{Kind: api.DSym, Name: "1", Stamp: 1}, api.ErrName)
}

// Fields that a kind has not mean nothing.
func TestA4OtherFields(t *testing.T) {
	bad := data(api.Datum{Kind: 9})
	for _, d := range []api.Datum{
		{Kind: api.DNum, N: 7, Name: "A b", Stamp: 1, Lib: 2, Kids: bad},
		{Kind: api.DBool, N: 1, Name: "A b", Stamp: 1, Lib: 2, Kids: bad},
		{Kind: api.DSym, N: math.MaxInt64, Name: "a", Kids: bad},
		{Kind: api.DList, N: math.MaxInt64, Name: "A b", Stamp: 1, Lib: 2},
	} {
		right(t, d)
	}
}

func TestA4Nodes(t *testing.T) {
	n := api.MaxNodes
	says(t, repeat(num(1), n), api.OK, 0)
	says(t, repeat(num(1), n+1), api.ErrMuch, n)
	says(t, data(list(repeat(num(1), n-1)...)), api.OK, 0)
	says(t, data(list(repeat(num(1), n)...)), api.ErrMuch, 0)
	half := list(repeat(sym("a"), n/2-1)...)
	says(t, data(half, half), api.OK, 0)
	says(t, data(half, half, num(1)), api.ErrMuch, 2)
	says(t, data(half, list(half)), api.ErrMuch, 1)
	says(t, append(repeat(list(), n), api.Datum{}), api.ErrMuch, n)
	says(t, append(repeat(list(), n-1), api.Datum{}), api.ErrKind, n-1)
}

func TestA4Deep(t *testing.T) {
	n := api.MaxDeep
	says(t, data(nested(n)), api.OK, 0)
	says(t, data(nested(n-1, sym("a"))), api.OK, 0)
	says(t, data(nested(n+1)), api.ErrMuch, 0)
	says(t, data(num(1), nested(n, sym("a"))), api.ErrMuch, 1)
	says(t, data(nested(n, api.Datum{})), api.ErrMuch, 0)
	says(t, data(nested(n-1, api.Datum{})), api.ErrKind, 0)
}

// Nodes come ahead of their kids, kids ahead of what stands behind.
func TestA4First(t *testing.T) {
	says(t, data(list(list(truth(2)), sym("")), api.Datum{}), api.ErrRange, 0)
	says(t, data(list(list(), sym("")), api.Datum{}), api.ErrName, 0)
	says(t, data(list(), api.Datum{Kids: data(truth(2))}, sym("")), api.ErrKind, 1)
	says(t, data(sym("a"), sym(""), nested(api.MaxDeep+1)), api.ErrName, 1)
}

func TestA4Nothing(t *testing.T) {
	says(t, nil, api.OK, 0)
	says(t, data(), api.OK, 0)
	says(t, data(api.Datum{Kind: api.DList, Kids: data()}), api.OK, 0)
}

// What holds itself, or something often, is too deep, or too much: no more of it is looked at. (It can't be told, either.)
func TestA4Endless(t *testing.T) {
	ring := data(list(), num(1))
	ring[0].Kids = ring
	often := sym("a")
	for range api.MaxDeep - 1 {
		often = list(often, often, often, often)
	}
	for i, l := range [][]api.Datum{
		data(ring...),
		data(list(sym("a"), ring[0])),
		data(often),
		data(list(repeat(list(), 1<<16)...)),
	} {
		if f := text.Wrong(l); f != fault(api.ErrMuch, 0) {
			t.Errorf("%d: Wrong is %v", i, f)
		}
		if s, f := text.Print(append(data(num(1)), l...)); s != "" || f != fault(api.ErrMuch, 1) {
			t.Errorf("%d: Print is %s %v", i, brief(s), f)
		}
	}
}
