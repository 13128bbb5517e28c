package lib_test

import (
	"fmt"
	"reflect"
	"strings"
	"testing"

	"graftwood/api"
	"graftwood/lib"
	"graftwood/text"
)

// What there is in all tests that say nothing else.
var (
	files = []api.File{
		{Name: "f", Text: "(define a 1) (define b 2)"},
		{Name: "open", Text: "(oops"},
		{Name: "f", Text: "7"},
		{Name: "none", Text: " ; nothing\n"},
		{Name: "big", Text: "1000000000000001"},
		{Name: "long", Text: strings.Repeat("x", api.MaxName+1)},
		{Name: "much", Text: strings.Repeat(" ", api.MaxText+1)},
		{Name: "full", Text: strings.Repeat("1 ", api.MaxBody)},
		{Name: "more", Text: strings.Repeat("1 ", api.MaxBody+1)},
		{Name: "quoted", Text: "'x #t"},
	}
	features = []string{"fast", "full"}
	libs     = []string{"base", "m", "m n"}
)

// datum is the one that s has.
func datum(t *testing.T, s string) api.Datum {
	t.Helper()
	l, f := text.Read(s)
	if f.Err != api.OK || len(l) != 1 {
		t.Fatalf("%.200q is no datum: %v", s, f)
	}
	return l[0]
}

func data(t *testing.T, s string) []api.Datum {
	t.Helper()
	l, f := text.Read(s)
	if f.Err != api.OK {
		t.Fatalf("%.200q: %v", s, f)
	}
	return l
}

func words(s string) []string { return strings.Fields(s) }

// pairs reads "here=there here=there".
func pairs(s string) []api.Pair {
	var out []api.Pair
	for _, w := range words(s) {
		here, there, _ := strings.Cut(w, "=")
		out = append(out, api.Pair{Here: here, There: there})
	}
	return out
}

func of(name string) api.Set { return api.Set{Kind: api.SetLib, Name: name} }

func only(s api.Set, names string) api.Set {
	return api.Set{Kind: api.SetOnly, Names: words(names), Kids: []api.Set{s}}
}

func except(s api.Set, names string) api.Set {
	return api.Set{Kind: api.SetExcept, Names: words(names), Kids: []api.Set{s}}
}

func prefix(s api.Set, p string) api.Set {
	return api.Set{Kind: api.SetPrefix, Prefix: p, Kids: []api.Set{s}}
}

func rename(s api.Set, names, as string) api.Set {
	return api.Set{Kind: api.SetRename, Names: words(names), As: words(as), Kids: []api.Set{s}}
}

// plain has nil for each list without entries: they are the same.
func plain(l api.Lib) api.Lib {
	l.Exports = append([]api.Pair(nil), l.Exports...)
	l.Imports = plainSets(l.Imports)
	l.Body = plainData(l.Body)
	return l
}

func plainSets(l []api.Set) []api.Set {
	var out []api.Set
	for _, s := range l {
		s.Names = append([]string(nil), s.Names...)
		s.As = append([]string(nil), s.As...)
		s.Kids = plainSets(s.Kids)
		out = append(out, s)
	}
	return out
}

func plainData(l []api.Datum) []api.Datum {
	var out []api.Datum
	for _, d := range l {
		d.Kids = plainData(d.Kids)
		out = append(out, d)
	}
	return out
}

func same(a, b api.Lib) bool { return reflect.DeepEqual(plain(a), plain(b)) }

func brief(x any) string {
	s := fmt.Sprint(x)
	if len(s) <= 400 {
		return s
	}
	return s[:200] + " .. " + s[len(s)-200:]
}

func parses(t *testing.T, s string, want api.Lib) {
	t.Helper()
	l, err := lib.Parse(files, features, libs, datum(t, s))
	if err != api.OK || !same(l, want) {
		t.Errorf("Parse(%s) is %s %v, not %s", brief(s), brief(l), err, brief(want))
	}
}

func fails(t *testing.T, s string, want api.Errno) {
	t.Helper()
	failsOf(t, files, datum(t, s), want)
}

func failsOf(t *testing.T, files []api.File, d api.Datum, want api.Errno) {
	t.Helper()
	l, err := lib.Parse(files, features, libs, d)
	if err != want || !same(l, api.Lib{}) {
		t.Errorf("Parse(%s) is %s %v, not %v", brief(d), brief(l), err, want)
	}
}

// hasBody: that is the body of a program with these declarations.
func hasBody(t *testing.T, declarations, want string) {
	t.Helper()
	parses(t, "(program "+declarations+")", api.Lib{Body: data(t, want)})
}

// failsIn: that is what is wrong with these declarations, of a library.
func failsIn(t *testing.T, declarations string, want api.Errno) {
	t.Helper()
	fails(t, "(library (a) "+declarations+")", want)
}

// many has n names: n0 n1 ..
func many(n int) string {
	var b strings.Builder
	for i := range n {
		fmt.Fprintf(&b, "n%d ", i)
	}
	return b.String()
}

// long is what a library is called with so many bytes.
func long(n int) string {
	var l []string
	for ; n > 20; n -= 11 {
		l = append(l, strings.Repeat("x", 10))
	}
	return strings.Join(append(l, strings.Repeat("y", n)), " ")
}
