package build_test

import (
	"fmt"
	"strings"
	"testing"

	"graftwood/api"
)

const nothing = "(program)"

// many is a project of so many sources, the last one of which is a program.
func many(n int) api.Project {
	var l []string
	for i := range n - 1 {
		l = append(l, fmt.Sprintf("(library (l%02d))", i))
	}
	return sources(append(l, nothing)...)
}

func TestL1Many(t *testing.T) {
	compiled := ""
	for i := range 29 {
		compiled += fmt.Sprintf("[l%02d]", i)
	}
	gives(t, many(30), compiled+"[]", "")
	fails(t, many(31), api.ErrMany, "", "")
	p := sources(nothing)
	for range 30 {
		p = with(p, "f", "1")
	}
	gives(t, p, "[]", "")
	fails(t, with(p, "g", "1"), api.ErrMany, "", "")
	// It comes ahead of what is wrong with any source.
	p = many(31)
	p.Sources[3].Text = "(oops"
	fails(t, p, api.ErrMany, "", "")
}

func TestL1Read(t *testing.T) {
	for s, err := range map[string]api.Errno{
		"(program":   api.ErrForm,
		")":          api.ErrForm,
		"(program))": api.ErrForm,
		"#x":         api.ErrForm,
		"(program (begin abcdefghijklmnopqrstu))": api.ErrName,
		"(program (begin 1000000000000001))":      api.ErrRange,
		strings.Repeat("(", 41):                   api.ErrMuch,
		nothing + strings.Repeat(" ", 6000):       api.ErrMuch,
		"":                                        api.ErrForm,
		" ; (program)":                            api.ErrForm,
		"1 2":                                     api.ErrForm,
		"(program) (program)":                     api.ErrForm,
	} {
		fails(t, sources(s), err, "s0", "")
		fails(t, sources(nothing, "(library (a))", s), err, "s2", "")
	}
	gives(t, sources(" (program) ; (oops"), "[]", "")
	// Source by source: one ahead, whatever those behind it are.
	fails(t, sources(nothing, "1 2", "(oops", "#x"), api.ErrForm, "s1", "")
	fails(t, sources("1000000000000001", "1 2"), api.ErrRange, "s0", "")
	fails(t, sources("1 2", "1000000000000001"), api.ErrForm, "s0", "")
	// All are read ahead of any being taken apart.
	fails(t, sources("5", "(library (base))", nothing, "1000000000000001"), api.ErrRange, "s3", "")
}

func TestL1Parse(t *testing.T) {
	for s, err := range map[string]api.Errno{
		"5":                                     api.ErrForm,
		"(other)":                               api.ErrForm,
		"(library)":                             api.ErrForm,
		"(library ())":                          api.ErrForm,
		"(library (5))":                         api.ErrForm,
		"(program (export x))":                  api.ErrForm,
		"(program (include zz))":                api.ErrNone,
		"(program (include bad))":               api.ErrRange,
		"(library (a) (export x (rename y x)))": api.ErrFit,
		"(library (" + strings.Repeat("abcdefghi ", 7) + "))":  api.ErrMuch,
		"(program (import" + strings.Repeat(" (a)", 21) + "))": api.ErrMany,
		"(program (begin" + strings.Repeat(" 1", 201) + "))":   api.ErrMany,
		"(program (cond-expand (fast (include zz))))":          api.ErrNone,
		"(program (cond-expand ((library (q)) (include zz))))": api.ErrNone,
	} {
		p := with(sources("(library (q))", s), "bad", "1000000000000001")
		p.Features = []string{"fast"}
		fails(t, p, err, "s1", "")
	}
	// Source by source, what is called as one ahead is, too.
	fails(t, sources("(library (a))", "(library (a))", "5"), api.ErrFit, "s1", "")
	fails(t, sources("(library (a))", "5", "(library (a))"), api.ErrForm, "s1", "")
	fails(t, sources("(library (base))", "5"), api.ErrFit, "s0", "")
	fails(t, sources("(library (a))", "(library (a) (import))", "(library (a))"), api.ErrFit, "s1", "")
}

func TestL1Included(t *testing.T) {
	p := sources("(program (include f) (import (base)) (include g f))")
	p = with(with(with(p, "f", "(out 1) (out 2)"), "g", "(out 3)"), "f", "(oops")
	gives(t, p, "[]", "1 2 3 1 2")
}

// asks is a program that puts out whether there is such a library, by the requirement.
func asks(requirement string) string {
	return "(program (import (base)) (cond-expand (" + requirement + " (begin (out 1))) (else (begin (out 0)))))"
}

// Which libraries there are is told of the data, whatever else they have: of those behind, too.
func TestL1Libs(t *testing.T) {
	gives(t, sources(asks("(library (base))")), "[]", "1")
	gives(t, sources(asks("(library (a))")), "[]", "0")
	gives(t, sources(asks("(library (a))"), "(library (a))"), "[a][]", "1")
	gives(t, sources("(library (a b))", asks("(library (a b))")), "[a b][]", "1")
	gives(t, sources("(library (a b))", asks("(or (library (a)) (library (b)) (library (b a)))")), "[a b][]", "0")
	gives(t, sources(asks("(library (program))")), "[]", "0")
	// One that is asked for ahead of being found wrong.
	ask := "(program (cond-expand ((library (a)) (include zz))))"
	fails(t, sources(ask, "(library (a) 5)"), api.ErrNone, "s0", "")
	fails(t, sources(ask, "(library (a 5))"), api.ErrForm, "s1", "")
	fails(t, sources(ask, "(lib (a))"), api.ErrForm, "s1", "")
	fails(t, sources(ask, "(library a)"), api.ErrForm, "s1", "")
	fails(t, sources(ask, "((library) (a))"), api.ErrForm, "s1", "")
	fails(t, sources(ask, "(library)"), api.ErrForm, "s1", "")
	// A library may ask for itself, and for one that is called as it is.
	gives(t, sources("(library (a) (cond-expand ((library (a)) (import (base)) (begin (out 5)))))", nothing), "[a][]", "5")
}

func TestL1Features(t *testing.T) {
	p := sources(asks("fast"))
	gives(t, p, "[]", "0")
	p.Features = []string{"slow", "fast"}
	gives(t, p, "[]", "1")
}

func TestL1Called(t *testing.T) {
	fails(t, sources("(library (base))"), api.ErrFit, "s0", "")
	fails(t, sources(nothing, "(library (base) (export car))"), api.ErrFit, "s1", "")
	gives(t, sources("(library (base base))", nothing), "[base base][]", "")
	fails(t, sources("(library (a))", nothing, "(library (a))"), api.ErrFit, "s2", "")
	fails(t, sources(nothing, nothing), api.ErrFit, "s1", "")
	fails(t, sources("(library (a))", nothing, nothing), api.ErrFit, "s2", "")
	// Ahead of what is needed.
	fails(t, sources("(library (a) (import (zz)))", "(library (a))"), api.ErrFit, "s1", "")
	fails(t, sources("(library (a) (import (a)))", "(library (b))", "(library (b))"), api.ErrFit, "s2", "")
}

func TestL1Order(t *testing.T) {
	// The least one by what it is called, not by its source.
	fails(t, sources("(library (c) (import (zz)))", "(library (b) (import (zz)))", nothing), api.ErrNone, "s1", "")
	fails(t, sources("(library (c) (import (a)))", "(library (a) (import (c)))", nothing), api.ErrCycle, "s1", "")
	fails(t, sources(nothing, "(library (a) (import (a)))"), api.ErrCycle, "s1", "")
	fails(t, sources("(library (a) (import (c)))", "(library (b) (import (only (c))))", "(library (c) (import (prefix (rename (b)) x)))", nothing), api.ErrCycle, "s1", "")
	fails(t, sources("(library (a) (import (a)))", "(library (b) (import (zz)))"), api.ErrNone, "s1", "")
	// Of a set of sets the library counts.
	fails(t, sources("(library (a) (import (only (except (zz) x) y)))", nothing), api.ErrNone, "s0", "")
	gives(t, sources("(library (a) (import (only (prefix (base) b-) b-car)))", nothing), "[a][]", "")
	// Ahead of there being no program, and of what it needs.
	fails(t, sources("(library (a) (import (a)))"), api.ErrCycle, "s0", "")
	fails(t, sources("(library (a) (import (zz)))"), api.ErrNone, "s0", "")
	fails(t, sources("(program (import (yy)))", "(library (a) (import (a)))"), api.ErrCycle, "s1", "")
	fails(t, sources("(program (import (yy)))", "(library (a) (import (zz)))"), api.ErrNone, "s1", "")
}

func TestL1Program(t *testing.T) {
	fails(t, api.Project{}, api.ErrNone, "", "")
	fails(t, sources("(library (a))"), api.ErrNone, "", "")
	fails(t, sources("(library (a) (begin x))"), api.ErrNone, "", "")
	fails(t, sources("(program (import (zz)))"), api.ErrNone, "s0", "")
	fails(t, sources("(library (a))", "(program (import (base) (a) (prefix (b) x)))"), api.ErrNone, "s1", "")
	// Ahead of what is wrong with a library as L2 says.
	fails(t, sources("(library (a) (begin x))", "(program (import (zz)))"), api.ErrNone, "s1", "")
}

// Library by library in that order, whatever the order of sources; those that nobody needs, too.
func TestL1Behind(t *testing.T) {
	bad := "(begin zz)"
	fails(t, sources("(program "+bad+")", "(library (b) (import (c)) "+bad+")", "(library (c) "+bad+")", "(library (a))"), api.ErrName, "s2", "[a]")
	fails(t, sources("(program "+bad+")", "(library (b) (import (c)) "+bad+")", "(library (c))", "(library (a))"), api.ErrName, "s1", "[a][c]")
	fails(t, sources("(program "+bad+")", "(library (b) (import (c)))", "(library (c))", "(library (a))"), api.ErrName, "s0", "[a][c][b]")
	gives(t, sources(nothing, "(library (b) (import (c)))", "(library (c))", "(library (a))"), "[a][c][b][]", "")
}

// Link tells that something is not defined, where define is another word.
func TestL1Link(t *testing.T) {
	other := "(program (import (rename (base) (define def) (cons define))) (begin "
	fails(t, sources("(library (a))", other+"(define x 5)))"), api.ErrName, "", "[a][]")
	gives(t, sources(other+"(def x 4) (define x 5) (out (define x 6))))"), "[]", "(4 . 6)")
	fails(t, sources("(program (import (except (base) define)) (begin (define define 5)))"), api.ErrName, "", "[]")
	// Ahead of it what is wrong with a library.
	fails(t, sources("(library (a) (import (rename (base) (define def) (cons define))) (begin (define x 5)))", "(program (begin x))"), api.ErrName, "s1", "[a]")
}

func TestL1Globals(t *testing.T) {
	l := []string{"(library (a) (import (base)) (include f))", "(library (b) (import (base)) (include f))", "(library (c) (import (base)) (include g))"}
	p := with(sources(append(l, nothing)...), "f", defines(179, "x"))
	gives(t, with(p, "g", defines(142, "x")), "[a][b][c][]", "")
	fails(t, with(p, "g", defines(143, "x")), api.ErrMuch, "", "[a][b][c][]")
	// A macro is no global.
	gives(t, with(p, "g", defines(142, "x")+"(define-syntax m (syntax-rules ()))"), "[a][b][c][]", "")
}
