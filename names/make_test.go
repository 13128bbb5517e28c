package names_test

import (
	"fmt"
	"slices"
	"strings"
	"testing"

	"graftwood/api"
	"graftwood/names"
)

func words(s string) []string { return strings.Fields(s) }

var lib = api.Set{Kind: api.SetLib, Name: "m"}

func only(s api.Set, names string) api.Set {
	return api.Set{Kind: api.SetOnly, Names: words(names), Kids: []api.Set{s}}
}

func except(s api.Set, names string) api.Set {
	return api.Set{Kind: api.SetExcept, Names: words(names), Kids: []api.Set{s}}
}

func prefix(s api.Set, p string) api.Set {
	return api.Set{Kind: api.SetPrefix, Prefix: p, Kids: []api.Set{s}}
}

func rename(s api.Set, names, as string) api.Set {
	return api.Set{Kind: api.SetRename, Names: words(names), As: words(as), Kids: []api.Set{s}}
}

// nested is s in so many others that bring all of it.
func nested(s api.Set, n int) api.Set {
	for range n {
		s = except(s, "")
	}
	return s
}

// many has n names, rising: n00000, n00001 ..
func many(n int) []string {
	var out []string
	for i := range n {
		out = append(out, fmt.Sprintf("n%05d", i))
	}
	return out
}

// pairs reads "here=there here=there".
func pairs(s string) []api.Pair {
	var out []api.Pair
	for _, w := range words(s) {
		here, there, _ := strings.Cut(w, "=")
		out = append(out, api.Pair{Here: here, There: there})
	}
	return out
}

// binds reads "here=lib.own here=lib.own".
func binds(s string) []api.Bind {
	var out []api.Bind
	for _, p := range pairs(s) {
		l, own, _ := strings.Cut(p.There, ".")
		out = append(out, api.Bind{Here: p.Here, Lib: l, Own: own})
	}
	return out
}

func brings(t *testing.T, s api.Set, exports, want string) {
	t.Helper()
	l, err := names.Of(s, words(exports))
	if err != api.OK || !slices.Equal(l, pairs(want)) {
		t.Errorf("Of(%v, %s) is %v %v, not %s", s, exports, l, err, want)
	}
}

func fails(t *testing.T, s api.Set, exports string, want api.Errno) {
	t.Helper()
	l, err := names.Of(s, words(exports))
	if err != want || len(l) != 0 {
		t.Errorf("Of(%v, %.80s) is %v %v, not %v", s, exports, l, err, want)
	}
}

func merges(t *testing.T, l, want string) {
	t.Helper()
	got, f := names.Merge(binds(l))
	if f != (api.Fault{}) || !slices.Equal(got, binds(want)) {
		t.Errorf("Merge(%s) is %v %v, not %s", l, got, f, want)
	}
}

func mergeFails(t *testing.T, l []api.Bind, err api.Errno, at int) {
	t.Helper()
	got, f := names.Merge(l)
	if f != (api.Fault{Err: err, At: at}) || len(got) != 0 {
		t.Errorf("Merge of %d is %v %v, not %v at %d", len(l), got, f, err, at)
	}
}
