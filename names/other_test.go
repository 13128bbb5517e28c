package names_test

import (
	"math/rand"
	"slices"
	"strings"
	"testing"

	"graftwood/api"
	"graftwood/names"
	"graftwood/text"
)

// otherOf answers as chapter 2 says, export by export, for Of to be held against.
func otherOf(s api.Set, exports []string) ([]api.Pair, api.Errno) {
	chain, err := otherChain(s)
	if err != api.OK {
		return nil, err
	}
	if len(exports) > api.MaxNames {
		return nil, api.ErrMany
	}
	for i, e := range exports {
		if !text.Named(e) {
			return nil, api.ErrName
		}
		if slices.Contains(exports[:i], e) {
			return nil, api.ErrFit
		}
	}
	here := slices.Clone(exports) // "": it is not brought any more
	slices.Reverse(chain)
	for _, s := range chain {
		if err := otherSet(s, here); err != api.OK {
			return nil, err
		}
	}
	var out []api.Pair
	for i, h := range here {
		if h != "" {
			out = append(out, api.Pair{Here: h, There: exports[i]})
		}
	}
	slices.SortFunc(out, func(a, b api.Pair) int { return strings.Compare(a.Here, b.Here) })
	return out, api.OK
}

// otherChain has all sets but the library, from the outermost on.
func otherChain(s api.Set) (out []api.Set, err api.Errno) {
	for deep := 1; ; deep++ {
		named := func(n string) bool { return text.Named(n) }
		rename := s.Kind == api.SetRename
		switch {
		case deep > api.MaxSet:
			return nil, api.ErrMuch
		case s.Kind == api.SetLib:
			return out, api.OK
		case s.Kind < api.SetLib || s.Kind > api.SetRename:
			return nil, api.ErrKind
		case len(s.Kids) != 1, rename && len(s.Names) != len(s.As):
			return nil, api.ErrMany
		case s.Kind == api.SetPrefix && !named(s.Prefix):
			return nil, api.ErrName
		case rename && slices.ContainsFunc(s.As, func(n string) bool { return !named(n) }):
			return nil, api.ErrName
		}
		out = append(out, s)
		s = s.Kids[0]
	}
}

func otherSet(s api.Set, here []string) api.Errno {
	if s.Kind != api.SetPrefix {
		for _, n := range s.Names {
			if n == "" || !slices.Contains(here, n) {
				return api.ErrNone
			}
		}
	}
	for i, h := range here {
		if h == "" {
			continue
		}
		at := slices.Index(s.Names, h)
		switch {
		case s.Kind == api.SetOnly && at < 0, s.Kind == api.SetExcept && at >= 0:
			here[i] = ""
		case s.Kind == api.SetRename && at >= 0:
			here[i] = s.As[at]
		case s.Kind == api.SetPrefix:
			here[i] = s.Prefix + h
		}
	}
	for i, h := range here {
		if s.Kind == api.SetPrefix && h != "" && !text.Named(h) {
			return api.ErrName
		}
		if s.Kind == api.SetRename && h != "" && slices.Contains(here[:i], h) {
			return api.ErrFit
		}
	}
	return api.OK
}

// Whatever sets and exports come, right ones and nearly right ones, Of answers as the other does.
func TestB2AsOther(t *testing.T) {
	r := rand.New(rand.NewSource(3))
	seen := map[api.Errno]int{}
	for range 60000 {
		s := anySet(r, r.Intn(5))
		if r.Intn(50) == 0 {
			s = nested(s, r.Intn(14))
		}
		exports := anyNames(r, r.Intn(7))
		slices.Sort(exports)
		if r.Intn(6) > 0 {
			exports = slices.Compact(exports)
		}
		r.Shuffle(len(exports), func(i, j int) { exports[i], exports[j] = exports[j], exports[i] })
		got, err := names.Of(s, exports)
		want, e := otherOf(s, exports)
		if err != e || !slices.Equal(got, want) {
			t.Fatalf("Of(%v, %v) is %v %v, not %v %v", s, exports, got, err, want, e)
		}
		seen[err]++
	}
	for _, err := range []api.Errno{api.OK, api.ErrKind, api.ErrMuch, api.ErrMany, api.ErrNone, api.ErrName, api.ErrFit} {
		if seen[err] < 20 {
			t.Errorf("%v came %d times", err, seen[err])
		}
	}
}

func anySet(r *rand.Rand, deep int) api.Set {
	if deep == 0 {
		if r.Intn(60) == 0 {
			return api.Set{Kind: r.Intn(9) - 1}
		}
		return lib
	}
	s := api.Set{Kind: api.SetOnly + r.Intn(4), Names: anyNames(r, r.Intn(3)), Prefix: anyNames(r, 1)[0]}
	s.As = anyNames(r, len(s.Names))
	s.Kids = []api.Set{anySet(r, deep-1)}
	switch r.Intn(120) {
	case 0:
		s.Kids = append(s.Kids, lib)
	case 1:
		s.As = append(s.As, "x")
	case 2:
		s.Kind = 6
	}
	return s
}

func anyNames(r *rand.Rand, n int) []string {
	var out []string
	for range n {
		s := []string{"a", "b", "c", "aa", "ab", "ba"}[r.Intn(6)]
		switch r.Intn(150) {
		case 0:
			s = "A"
		case 1:
			s = strings.Repeat("a", 18+r.Intn(3))
		}
		out = append(out, s)
	}
	return out
}

// otherMerge answers as B3 says, each entry against all that stand ahead of it.
func otherMerge(l []api.Bind) ([]api.Bind, api.Fault) {
	var out []api.Bind
	for i, b := range l {
		at := slices.IndexFunc(l[:i], func(x api.Bind) bool { return x.Here == b.Here })
		switch {
		case at >= 0 && l[at] != b:
			return nil, api.Fault{Err: api.ErrFit, At: i}
		case at < 0:
			out = append(out, b)
		}
		if len(out) > api.MaxNames {
			return nil, api.Fault{Err: api.ErrMany, At: i}
		}
	}
	slices.SortFunc(out, func(a, b api.Bind) int { return strings.Compare(a.Here, b.Here) })
	return out, api.Fault{}
}

func TestB3AsOther(t *testing.T) {
	r := rand.New(rand.NewSource(4))
	for range 3000 {
		from := many(1 + r.Intn(230))
		var l []api.Bind
		for range r.Intn(500) {
			b := api.Bind{Here: from[r.Intn(len(from))], Lib: "m", Own: "x"}
			if r.Intn(2000) == 0 {
				b.Own = "y"
			}
			if r.Intn(2000) == 0 {
				b.Lib = "n"
			}
			l = append(l, b)
		}
		got, f := names.Merge(l)
		want, g := otherMerge(l)
		if f != g || !slices.Equal(got, want) {
			t.Fatalf("Merge(%v) is %v %v, not %v %v", l, got, f, want, g)
		}
	}
}
