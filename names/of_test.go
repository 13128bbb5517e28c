package names_test

import (
	"strings"
	"testing"

	"graftwood/api"
	"graftwood/names"
)

func TestB1Deep(t *testing.T) {
	brings(t, nested(lib, api.MaxSet-1), "b a", "a=a b=b")
	fails(t, nested(lib, api.MaxSet), "b a", api.ErrMuch)
	fails(t, nested(api.Set{}, api.MaxSet), "b a", api.ErrMuch)
	fails(t, nested(api.Set{}, api.MaxSet-1), "b a", api.ErrKind)
	fails(t, nested(lib, 1000), "a a", api.ErrMuch)
}

func TestB1Kind(t *testing.T) {
	for _, kind := range []int{-1, 0, 6, 1 << 40} {
		fails(t, api.Set{Kind: kind}, "a", api.ErrKind)
		fails(t, api.Set{Kind: kind, Name: "m", Kids: []api.Set{lib}}, "a", api.ErrKind)
		fails(t, only(api.Set{Kind: kind, Kids: []api.Set{lib, lib}}, "a"), "a", api.ErrKind)
	}
}

func TestB1Kids(t *testing.T) {
	for kind := api.SetOnly; kind <= api.SetRename; kind++ {
		fails(t, api.Set{Kind: kind, Prefix: "p"}, "a", api.ErrMany)
		fails(t, api.Set{Kind: kind, Prefix: "p", Kids: []api.Set{lib, lib}}, "a", api.ErrMany)
		fails(t, except(api.Set{Kind: kind, Prefix: "p"}, "z"), "a", api.ErrMany)
	}
	brings(t, api.Set{Kind: api.SetLib, Kids: []api.Set{{}, {}}}, "a", "a=a")
}

func TestB1As(t *testing.T) {
	fails(t, rename(lib, "a", ""), "a", api.ErrMany)
	fails(t, rename(lib, "", "a"), "a", api.ErrMany)
	fails(t, rename(lib, "a", "b c"), "a", api.ErrMany)
	fails(t, rename(lib, "a b", "A"), "a b", api.ErrMany)
	fails(t, rename(lib, "a b", "c A"), "a b", api.ErrName)
	fails(t, rename(lib, "a b", "1 c"), "a b", api.ErrName)
	fails(t, rename(lib, "a", strings.Repeat("x", api.MaxName+1)), "a", api.ErrName)
	brings(t, rename(lib, "a", strings.Repeat("x", api.MaxName)), "a", strings.Repeat("x", api.MaxName)+"=a")
	fails(t, rename(api.Set{}, "a", "A"), "a", api.ErrName)
	fails(t, rename(lib, "z", "A"), "a", api.ErrName)
}

func TestB1Prefix(t *testing.T) {
	for _, p := range []string{"", "A", "12", "-1", "a b", "(", strings.Repeat("p", api.MaxName+1)} {
		fails(t, prefix(lib, p), "a", api.ErrName)
		fails(t, prefix(lib, p), "", api.ErrName)
		fails(t, prefix(api.Set{}, p), "a", api.ErrName)
		fails(t, prefix(lib, p), "a a", api.ErrName)
	}
	brings(t, prefix(lib, strings.Repeat("p", api.MaxName)), "", "")
}

// What a kind has not means nothing.
func TestB1OtherFields(t *testing.T) {
	odd := func(s api.Set) api.Set {
		if s.Kind != api.SetRename {
			s.As = []string{"A", ""}
		}
		if s.Kind != api.SetPrefix {
			s.Prefix = "A b"
		}
		if s.Kind == api.SetPrefix || s.Kind == api.SetLib {
			s.Names = []string{"z", "A"}
		}
		if s.Kind != api.SetLib {
			s.Name = "other"
		}
		return s
	}
	brings(t, odd(lib), "b a", "a=a b=b")
	brings(t, odd(only(odd(lib), "a")), "b a", "a=a")
	brings(t, odd(except(odd(lib), "a")), "b a", "b=b")
	brings(t, odd(prefix(odd(lib), "p")), "b a", "pa=a pb=b")
	brings(t, odd(rename(odd(lib), "a", "q")), "b a", "b=b q=a")
}

// Each set comes ahead of its kid, and all sets ahead of the exports.
func TestB1First(t *testing.T) {
	fails(t, prefix(only(rename(lib, "a", "A"), "z"), ""), "", api.ErrName)
	fails(t, api.Set{Kind: api.SetOnly, Kids: []api.Set{{}, {}}}, "A", api.ErrMany)
	fails(t, prefix(api.Set{Kind: api.SetOnly}, "1"), "a", api.ErrName)
	fails(t, rename(prefix(lib, "1"), "a", ""), "a", api.ErrMany)
	fails(t, except(prefix(lib, "1"), "z"), strings.Join(many(201), " "), api.ErrName)
	fails(t, only(lib, "z"), "a A", api.ErrName)
	fails(t, only(lib, "z"), "a a", api.ErrFit)
	fails(t, prefix(lib, strings.Repeat("p", api.MaxName)), "a a", api.ErrFit)
}

func TestB1Exports(t *testing.T) {
	full := many(api.MaxNames)
	l, err := names.Of(lib, full)
	if err != api.OK || len(l) != api.MaxNames || l[0].Here != full[0] || l[199].Here != full[199] {
		t.Errorf("Of is %v %v", l, err)
	}
	fails(t, lib, strings.Join(many(api.MaxNames+1), " "), api.ErrMany)
	fails(t, lib, strings.Repeat("A ", api.MaxNames+1), api.ErrMany)
	fails(t, lib, strings.Repeat("A ", api.MaxNames), api.ErrName)
	fails(t, lib, strings.Repeat("a ", api.MaxNames+1), api.ErrMany)
	fails(t, lib, "a b A", api.ErrName)
	fails(t, lib, "a b 12", api.ErrName)
	fails(t, lib, strings.Repeat("x", api.MaxName+1), api.ErrName)
	if l, err := names.Of(lib, []string{"a", ""}); err != api.ErrName || len(l) != 0 {
		t.Errorf("Of is %v %v", l, err)
	}
	fails(t, lib, "a b a", api.ErrFit)
	fails(t, lib, "a a A", api.ErrFit)
	fails(t, lib, "a A a", api.ErrName)
	fails(t, lib, "A A", api.ErrName)
}

func TestB1Rising(t *testing.T) {
	brings(t, lib, "c a b", "a=a b=b c=c")
	brings(t, lib, "a b aa a- a0 a> ab", "a=a a-=a- a0=a0 a>=a> aa=aa ab=ab b=b")
	brings(t, rename(lib, "a c", "z b2"), "a b c", "b=b b2=c z=a")
}

func TestB2Lib(t *testing.T) {
	brings(t, lib, "", "")
	brings(t, lib, "x y", "x=x y=y")
	brings(t, api.Set{Kind: api.SetLib}, "x", "x=x")
	brings(t, api.Set{Kind: api.SetLib, Name: "A b"}, "x", "x=x")
}

func TestB2Only(t *testing.T) {
	brings(t, only(lib, "c a"), "a b c", "a=a c=c")
	brings(t, only(lib, "a a"), "a b c", "a=a")
	brings(t, only(lib, ""), "a b c", "")
	fails(t, only(lib, "a z"), "a b c", api.ErrNone)
	fails(t, only(lib, "A"), "a b c", api.ErrNone)
	fails(t, only(lib, "a"), "", api.ErrNone)
	fails(t, only(except(lib, "a"), "a"), "a b", api.ErrNone)
	brings(t, only(prefix(lib, "p-"), "p-b"), "a b", "p-b=b")
	fails(t, only(prefix(lib, "p-"), "b"), "a b", api.ErrNone)
	brings(t, only(rename(lib, "a", "q"), "q"), "a b", "q=a")
	fails(t, only(rename(lib, "a", "q"), "a"), "a b", api.ErrNone)
}

func TestB2Except(t *testing.T) {
	brings(t, except(lib, "b"), "a b c", "a=a c=c")
	brings(t, except(lib, "a a"), "a b c", "b=b c=c")
	brings(t, except(lib, ""), "b a", "a=a b=b")
	brings(t, except(lib, "c b a"), "a b c", "")
	fails(t, except(lib, "z"), "a b c", api.ErrNone)
	fails(t, except(lib, "a A"), "a b c", api.ErrNone)
	fails(t, except(except(lib, "a"), "a"), "a b", api.ErrNone)
	brings(t, except(prefix(lib, "p-"), "p-b"), "a b", "p-a=a")
	fails(t, except(prefix(lib, "p-"), "b"), "a b", api.ErrNone)
}

func TestB2Prefix(t *testing.T) {
	brings(t, prefix(lib, "x-"), "b", "x-b=b") // the document's second example
	brings(t, prefix(prefix(lib, "b"), "a"), "a b", "aba=a abb=b")
	brings(t, prefix(lib, "-"), "1a -", "--=- -1a=1a")
	long := strings.Repeat("p", api.MaxName-1)
	brings(t, prefix(lib, long), "a", long+"a=a")
	fails(t, prefix(lib, long), "a ab", api.ErrName)
	fails(t, prefix(prefix(lib, long), "p"), "a", api.ErrName)
	brings(t, prefix(only(lib, "a"), long), "a ab", long+"a=a")
	fails(t, only(prefix(lib, long), long+"a"), "a ab", api.ErrName)
}

func TestB2Rename(t *testing.T) {
	brings(t, rename(lib, "a", "q"), "a b c", "b=b c=c q=a")
	brings(t, rename(lib, "", ""), "a b", "a=a b=b")
	brings(t, rename(lib, "a b", "b a"), "a b c", "a=b b=a c=c")
	brings(t, rename(lib, "a b c", "b c a"), "a b c", "a=c b=a c=b")
	brings(t, rename(lib, "a", "a"), "a b", "a=a b=b")
	fails(t, rename(lib, "a", "b"), "a b", api.ErrFit)
	fails(t, rename(lib, "b", "a"), "a b", api.ErrFit)
	fails(t, rename(lib, "a b", "q q"), "a b", api.ErrFit)
	fails(t, rename(lib, "z", "q"), "a b", api.ErrNone)
	fails(t, rename(lib, "a z", "b q"), "a b", api.ErrNone)
	brings(t, rename(except(lib, "b"), "a", "b"), "a b", "b=a")
	brings(t, rename(rename(lib, "a", "q"), "q", "r"), "a b", "b=b r=a")
}

// A name that stands twice is called as where it stands first.
func TestB2RenameTwice(t *testing.T) {
	brings(t, rename(lib, "a a", "q r"), "a b", "b=b q=a")
	brings(t, rename(lib, "a a", "q q"), "a b", "b=b q=a")
	brings(t, rename(lib, "a a", "q b"), "a b", "b=b q=a")
	fails(t, rename(lib, "a a", "b q"), "a b", api.ErrFit)
	brings(t, rename(lib, "a b a b", "b a c d"), "a b", "a=b b=a")
}

// A kid's error comes ahead of its set's own.
func TestB2KidFirst(t *testing.T) {
	long := strings.Repeat("p", api.MaxName)
	fails(t, only(rename(lib, "a", "b"), "z"), "a b", api.ErrFit)
	fails(t, except(prefix(lib, long), "z"), "a b", api.ErrName)
	fails(t, prefix(only(lib, "z"), long), "a b", api.ErrNone)
	fails(t, rename(except(lib, "z"), "a", "b"), "a b", api.ErrNone)
	fails(t, only(prefix(rename(lib, "a", "b"), long), "z"), "a b", api.ErrFit)
}

// Only and except are two parts.
func TestB2TwoParts(t *testing.T) {
	exports := "a b c d e"
	for part := range 32 {
		var l []string
		for i, s := range words(exports) {
			if part>>i&1 == 1 {
				l = append(l, s)
			}
		}
		in, _ := names.Of(only(lib, strings.Join(l, " ")), words(exports))
		out, _ := names.Of(except(lib, strings.Join(l, " ")), words(exports))
		if len(in) != len(l) || len(in)+len(out) != 5 {
			t.Errorf("of %v only brings %v, except %v", l, in, out)
		}
		for _, p := range in {
			for _, q := range out {
				if p.Here == q.Here {
					t.Errorf("%v is in both", p)
				}
			}
		}
	}
}

// Renamed there and back.
func TestB2ThereAndBack(t *testing.T) {
	for _, as := range []string{"x y z", "b c a", "b a d", "a b c"} {
		brings(t, rename(rename(lib, "a b c", as), as, "a b c"), "c b a", "a=a b=b c=c")
	}
}
