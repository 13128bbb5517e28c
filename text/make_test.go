package text_test

import (
	"fmt"
	"reflect"
	"strconv"
	"strings"
	"testing"

	"graftwood/api"
	"graftwood/text"
)

func num(n int64) api.Datum               { return api.Datum{Kind: api.DNum, N: n} }
func truth(n int64) api.Datum             { return api.Datum{Kind: api.DBool, N: n} }
func sym(s string) api.Datum              { return api.Datum{Kind: api.DSym, Name: s} }
func list(kids ...api.Datum) api.Datum    { return api.Datum{Kind: api.DList, Kids: kids} }
func data(l ...api.Datum) []api.Datum     { return l }
func quoted(d api.Datum) api.Datum        { return list(sym("quote"), d) }
func fault(e api.Errno, at int) api.Fault { return api.Fault{Err: e, At: at} }

// nested is a list in so many others, less one, around inner.
func nested(deep int, inner ...api.Datum) api.Datum {
	d := list(inner...)
	for range deep - 1 {
		d = list(d)
	}
	return d
}

func repeat(d api.Datum, n int) []api.Datum {
	var l []api.Datum
	for range n {
		l = append(l, d)
	}
	return l
}

// plain has nil for each list without entries: they are the same.
func plain(l []api.Datum) []api.Datum {
	var out []api.Datum
	for _, d := range l {
		d.Kids = plain(d.Kids)
		out = append(out, d)
	}
	return out
}

func same(a, b []api.Datum) bool {
	return reflect.DeepEqual(plain(a), plain(b))
}

// brief is how a text, or data, begin and end, where they are long.
func brief(x any) string {
	s := fmt.Sprint(x)
	if l, ok := x.(string); ok {
		s = strconv.Quote(l)
	}
	if len(s) <= 240 {
		return s
	}
	return s[:120] + " .. " + s[len(s)-120:]
}

func reads(t *testing.T, s string, want ...api.Datum) {
	t.Helper()
	l, f := text.Read(s)
	if f != fault(api.OK, 0) || !same(l, want) {
		t.Errorf("Read(%s) is %s %v, not %s", brief(s), brief(l), f, brief(want))
	}
}

func fails(t *testing.T, s string, err api.Errno, at int) {
	t.Helper()
	l, f := text.Read(s)
	if f != fault(err, at) || len(l) != 0 {
		t.Errorf("Read(%s) is %s %v, not %v", brief(s), brief(l), f, fault(err, at))
	}
}

func open(n int) string { return strings.Repeat("(", n) }

func shut(n int) string { return strings.Repeat(")", n) }

func ones(n int) string { return strings.Repeat("1 ", n) }
