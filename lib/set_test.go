package lib_test

import (
	"strings"
	"testing"

	"graftwood/api"
	"graftwood/lib"
)

func imports(t *testing.T, s string, want ...api.Set) {
	t.Helper()
	parses(t, "(program (import "+s+"))", api.Lib{Imports: want})
}

func importFails(t *testing.T, s string, want api.Errno) {
	t.Helper()
	failsIn(t, "(import "+s+")", want)
	failsIn(t, "(import (m) "+s+" 5)", want)
	failsIn(t, "(import (only "+s+" 5))", want)
}

func TestC2Lib(t *testing.T) {
	imports(t, "")
	imports(t, "(m) (m n) (m)", of("m"), of("m n"), of("m"))
	imports(t, "("+long(api.MaxLibName)+")", of(long(api.MaxLibName)))
	failsIn(t, "(import ("+long(api.MaxLibName+1)+"))", api.ErrMuch)
	failsIn(t, "(import (only ("+long(api.MaxLibName+1)+")))", api.ErrMuch)
	for _, s := range []string{"5", "#t", "m", "()", "(5)", "(m 5)", "(m (n))", "((m))", "(sum (m))", "(sum (m) a)", "(5 (m))", "((only) (m))"} {
		failsIn(t, "(import "+s+")", api.ErrForm)
		failsIn(t, "(import (m) "+s+")", api.ErrForm)
	}
}

// A library may be called by the words of sets.
func TestC2LibWords(t *testing.T) {
	for _, s := range []string{"only", "except", "prefix", "rename"} {
		imports(t, "("+s+")", of(s))
		imports(t, "("+s+" b)", of(s+" b"))
		imports(t, "("+s+" b c)", of(s+" b c"))
		imports(t, "(m "+s+")", of("m "+s))
		failsIn(t, "(import ("+s+" b (c)))", api.ErrForm)
		failsIn(t, "(import ("+s+" 5))", api.ErrForm)
		failsIn(t, "(import ("+s+" 5 (c)))", api.ErrForm)
		failsIn(t, "(import (m "+s+" (b)))", api.ErrForm)
		parses(t, "(library ("+s+" x))", api.Lib{Name: s + " x"})
		fails(t, "(library ("+s+" (x)))", api.ErrForm)
	}
	imports(t, "(only (only))", only(of("only"), ""))
	imports(t, "(only (only b) only)", only(of("only b"), "only"))
}

func TestC2OnlyExcept(t *testing.T) {
	imports(t, "(only (m))", only(of("m"), ""))
	imports(t, "(except (m))", except(of("m"), ""))
	imports(t, "(only (m n) b a b)", only(of("m n"), "b a b"))
	imports(t, "(except (m n) b a b)", except(of("m n"), "b a b"))
	for _, s := range []string{"5", "(a)", "()", "#f"} {
		importFails(t, "(only (m) "+s+")", api.ErrForm)
		importFails(t, "(only (m) a "+s+" b)", api.ErrForm)
		importFails(t, "(except (m) "+s+")", api.ErrForm)
		importFails(t, "(except (m) a "+s+" b)", api.ErrForm)
	}
	importFails(t, "(only ())", api.ErrForm)
	importFails(t, "(except (5) a)", api.ErrForm)
}

func TestC2Prefix(t *testing.T) {
	imports(t, "(prefix (m) p-)", prefix(of("m"), "p-"))
	imports(t, "(prefix (m) prefix)", prefix(of("m"), "prefix"))
	for _, s := range []string{"", "5", "(p)", "()", "p q", "p 5"} {
		importFails(t, "(prefix (m) "+s+")", api.ErrForm)
	}
	importFails(t, "(prefix () p)", api.ErrForm)
}

func TestC2Rename(t *testing.T) {
	imports(t, "(rename (m))", rename(of("m"), "", ""))
	imports(t, "(rename (m) (a b))", rename(of("m"), "a", "b"))
	imports(t, "(rename (m) (a b) (c d) (a b) (c c))", rename(of("m"), "a c a c", "b d b c"))
	for _, s := range []string{"5", "a", "()", "(a)", "(a b c)", "(a 5)", "(5 a)", "(a (b))", "((a) b)"} {
		importFails(t, "(rename (m) "+s+")", api.ErrForm)
		importFails(t, "(rename (m) (a b) "+s+")", api.ErrForm)
	}
}

func TestC2Nested(t *testing.T) {
	imports(t, "(rename (prefix (except (only (m n) a b) b) p-) (p-a c))", rename(prefix(except(only(of("m n"), "a b"), "b"), "p-"), "p-a", "c"))
	nested := func(n int, inner string) string {
		return strings.Repeat("(only ", n) + inner + strings.Repeat(" x)", n)
	}
	want := of("m")
	for range api.MaxSet - 1 {
		want = only(want, "x")
	}
	imports(t, nested(api.MaxSet-1, "(m)"), want)
	failsIn(t, "(import "+nested(api.MaxSet, "(m)")+")", api.ErrMuch)
	failsIn(t, "(import "+nested(api.MaxSet, "()")+")", api.ErrMuch)
	failsIn(t, "(import "+nested(api.MaxSet, "(5)")+")", api.ErrMuch)
	failsIn(t, "(import "+nested(api.MaxSet+1, "(m)")+")", api.ErrMuch)
	failsIn(t, "(import "+nested(api.MaxSet-1, "()")+")", api.ErrForm)
	failsIn(t, "(import "+nested(api.MaxSet-1, "5")+")", api.ErrForm)
	imports(t, "(m) "+nested(api.MaxSet-1, "(m)"), of("m"), want)
}

// A set comes ahead of what stands behind it in its list.
func TestC2KidFirst(t *testing.T) {
	much := "(" + long(api.MaxLibName+1) + ")"
	for _, s := range []string{"(only %s 5)", "(except %s ())", "(prefix %s)", "(prefix %s 5)", "(prefix %s p q)", "(rename %s a)", "(rename %s (a))"} {
		failsIn(t, "(import "+strings.Replace(s, "%s", much, 1)+")", api.ErrMuch)
		failsIn(t, "(import "+strings.Replace(s, "%s", "(m)", 1)+" "+much+")", api.ErrForm)
	}
}

// holds: a clause with that requirement is taken, and one with its opposite is not.
func holds(t *testing.T, s string, want bool) {
	t.Helper()
	for _, r := range []string{s, "(not (not " + s + "))", "(and " + s + ")", "(or " + s + ")", "(and " + s + " (not slow))"} {
		held(t, r, want)
	}
	held(t, "(not "+s+")", !want)
}

func held(t *testing.T, s string, want bool) {
	t.Helper()
	l, err := lib.Parse(files, features, libs, datum(t, "(program (cond-expand ("+s+" (begin 1))))"))
	if err != api.OK || (len(l.Body) == 1) != want {
		t.Errorf("with %s Parse is %v %v", s, l, err)
	}
}

func requireFails(t *testing.T, s string, want api.Errno) {
	t.Helper()
	for _, r := range []string{s, "(not " + s + ")", "(and fast " + s + ")", "(or slow " + s + ")"} {
		failsIn(t, "(cond-expand ("+r+" (begin 1)))", want)
		failsIn(t, "(cond-expand (slow) ("+r+" (begin 1)) (fast))", want)
	}
}

func TestC2Features(t *testing.T) {
	holds(t, "fast", true)
	holds(t, "full", true)
	holds(t, "slow", false)
	holds(t, "fas", false)
	holds(t, "base", false)
	holds(t, "library", false)
	for _, s := range []string{"5", "#t", "()", "(5)", "(fast)", "((and))", "(else)", "(nor fast)"} {
		requireFails(t, s, api.ErrForm)
	}
}

// The name else is taken where it is all that is required; else it is a name like others.
func TestC2Else(t *testing.T) {
	held(t, "else", true)
	held(t, "(or else)", false)
	held(t, "(and else)", false)
	held(t, "(not else)", true)
	l, err := lib.Parse(nil, []string{"else", "not"}, nil, datum(t, "(program (cond-expand ((and else not) (begin 1))))"))
	if err != api.OK || len(l.Body) != 1 {
		t.Errorf("Parse is %v %v", l, err)
	}
}

func TestC2Library(t *testing.T) {
	holds(t, "(library (m))", true)
	holds(t, "(library (m n))", true)
	holds(t, "(library (n))", false)
	holds(t, "(library (n m))", false)
	holds(t, "(library (fast))", false)
	holds(t, "(library (library))", false)
	holds(t, "(library ("+long(api.MaxLibName)+"))", false)
	requireFails(t, "(library ("+long(api.MaxLibName+1)+"))", api.ErrMuch)
	for _, s := range []string{"(library)", "(library m)", "(library ())", "(library (5))", "(library (m) (n))", "(library (only (m)))"} {
		requireFails(t, s, api.ErrForm)
	}
}

func TestC2Not(t *testing.T) {
	holds(t, "(not fast)", false)
	holds(t, "(not slow)", true)
	for _, s := range []string{"(not)", "(not fast fast)", "(not 5)", "(not ())"} {
		requireFails(t, s, api.ErrForm)
	}
}

func TestC2AndOr(t *testing.T) {
	for s, want := range map[string]bool{
		"(and)": true, "(or)": false,
		"(and fast)": true, "(or fast)": true,
		"(and slow)": false, "(or slow)": false,
		"(and fast full)": true, "(or slow full)": true,
		"(and fast full slow)": false, "(or slow slow)": false,
		"(and slow fast)": false, "(or fast slow)": true,
		"(and (or slow fast) (not (and fast slow)) (library (base)))": true,
		"(or (and fast slow) (not (or fast slow)) (library (zz)))":    false,
	} {
		holds(t, s, want)
	}
}

// None is looked at behind the one that tells, and each one ahead of it is.
func TestC2Tells(t *testing.T) {
	holds(t, "(and slow 5)", false)
	holds(t, "(and fast slow () (oops))", false)
	holds(t, "(or fast 5)", true)
	holds(t, "(or slow fast () (oops))", true)
	holds(t, "(or (and slow 5) (and fast) 5)", true)
	for _, s := range []string{"(and fast 5)", "(and 5 slow)", "(or slow 5)", "(or 5 fast)", "(and fast (or slow 5))", "(and fast full ())"} {
		requireFails(t, s, api.ErrForm)
	}
}
