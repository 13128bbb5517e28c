package lib_test

import (
	"strings"
	"testing"

	"graftwood/api"
	"graftwood/lib"
)

func TestC1Library(t *testing.T) {
	parses(t, "(library (a))", api.Lib{Name: "a"})
	parses(t, "(library (a b c))", api.Lib{Name: "a b c"})
	parses(t, "(library (a) (export) (import) (begin) (include) (cond-expand))", api.Lib{Name: "a"})
	parses(t, "(library (a b) (export x (rename y z)) (import (base) (only (m) p)) (begin (define x 1) 'q))", api.Lib{
		Name:    "a b",
		Exports: pairs("x=x z=y"),
		Imports: []api.Set{of("base"), only(of("m"), "p")},
		Body:    data(t, "(define x 1) 'q"),
	})
	for _, s := range []string{"(library)", "(library a)", "(library ())", "(library 5)", "(library (1))", "(library (a #t))", "(library (a (b)))", "(library ((a)))"} {
		fails(t, s, api.ErrForm)
	}
}

func TestC1Program(t *testing.T) {
	parses(t, "(program)", api.Lib{})
	parses(t, "(program (import (base)) (begin 1 2) (begin 3))", api.Lib{Imports: []api.Set{of("base")}, Body: data(t, "1 2 3")})
	fails(t, "(program (a))", api.ErrForm)
	fails(t, "(program (export x))", api.ErrForm)
	fails(t, "(program (export))", api.ErrForm)
	fails(t, "(program (cond-expand (else (export x))))", api.ErrForm)
}

func TestC1Neither(t *testing.T) {
	for _, s := range []string{"5", "#t", "library", "program", "()", "(x)", "(5)", "((library))", "((library) (a))", "('library (a))", "(libraries (a))", "(begin 1)"} {
		fails(t, s, api.ErrForm)
	}
}

func TestC1Called(t *testing.T) {
	for _, n := range []int{1, 20, 21, 59, api.MaxLibName} {
		parses(t, "(library ("+long(n)+"))", api.Lib{Name: long(n)})
	}
	for _, n := range []int{api.MaxLibName + 1, api.MaxLibName + 2, 1000} {
		fails(t, "(library ("+long(n)+"))", api.ErrMuch)
		fails(t, "(library ("+long(n)+" 5))", api.ErrForm)
		fails(t, "(library ("+long(n)+") 5)", api.ErrMuch)
	}
}

func TestC1Declarations(t *testing.T) {
	for _, s := range []string{"x", "5", "#f", "()", "(5)", "((begin))", "(x)", "(define x 1)", "(else)", "(exports x)"} {
		failsIn(t, s, api.ErrForm)
		failsIn(t, "(begin 1) "+s+" (export x x)", api.ErrForm)
		fails(t, "(program "+s+")", api.ErrForm)
	}
	parses(t, "(library (a) (begin 1) (export x) (import (m)) (include f) (export y) (begin 3) (import (n)))", api.Lib{
		Name:    "a",
		Exports: pairs("x=x y=y"),
		Imports: []api.Set{of("m"), of("n")},
		Body:    data(t, "1 (define a 1) (define b 2) 3"),
	})
}

func TestC1Export(t *testing.T) {
	exports := func(s, want string) {
		t.Helper()
		parses(t, "(library (a) "+s+")", api.Lib{Name: "a", Exports: pairs(want)})
	}
	exports("(export b a)", "b=b a=a")
	exports("(export (rename x y))", "y=x")
	exports("(export (rename x y) x)", "y=x x=x")
	exports("(export (rename x y) (rename x z))", "y=x z=x")
	exports("(export (rename x y) (rename y x))", "y=x x=y")
	exports("(export (rename x x))", "x=x")
	exports("(export rename)", "rename=rename")
	exports("(export (rename rename rename))", "rename=rename")
	for _, s := range []string{"5", "#t", "()", "(x)", "(rename)", "(rename x)", "(rename x y z)", "(as x y)", "(rename 5 x)", "(rename x 5)", "(5 x y)", "((rename) x y)", "(rename (x) y)"} {
		failsIn(t, "(export "+s+")", api.ErrForm)
		failsIn(t, "(export x "+s+" x)", api.ErrForm)
	}
}

func TestC1ExportTwice(t *testing.T) {
	failsIn(t, "(export x x)", api.ErrFit)
	failsIn(t, "(export x) (export y x)", api.ErrFit)
	failsIn(t, "(export x (rename y x))", api.ErrFit)
	failsIn(t, "(export (rename y x) x)", api.ErrFit)
	failsIn(t, "(export (rename y x) (rename y x))", api.ErrFit)
	failsIn(t, "(export x) (cond-expand (fast (export x)))", api.ErrFit)
	failsIn(t, "(export x x 5)", api.ErrFit)
	failsIn(t, "(export x 5 x)", api.ErrForm)
}

func TestC1ExportMany(t *testing.T) {
	full := "(export " + many(api.MaxNames) + ")"
	l, err := lib.Parse(nil, nil, nil, datum(t, "(library (a) "+full+" (export))"))
	if err != api.OK || len(l.Exports) != api.MaxNames || l.Exports[199] != (api.Pair{Here: "n199", There: "n199"}) {
		t.Errorf("Parse is %v %v", l, err)
	}
	failsIn(t, "(export "+many(api.MaxNames+1)+")", api.ErrMany)
	failsIn(t, full+"(export (rename x y))", api.ErrMany)
	failsIn(t, full+"(export n0)", api.ErrFit)
	failsIn(t, full+"(export 5)", api.ErrForm)
	failsIn(t, full+"(export x 5)", api.ErrMany)
}

func TestC1ImportMany(t *testing.T) {
	var want []api.Set
	for range api.MaxImports {
		want = append(want, of("m"))
	}
	full := "(import " + strings.Repeat("(m) ", api.MaxImports) + ")"
	parses(t, "(program "+full+"(import))", api.Lib{Imports: want})
	parses(t, "(program "+strings.Repeat("(import (m))", api.MaxImports)+")", api.Lib{Imports: want})
	for _, s := range []string{"(m)", "5", "()", "(" + long(61) + ")"} {
		failsIn(t, full+"(import "+s+")", api.ErrMany)
		failsIn(t, "(import "+strings.Repeat("(m) ", api.MaxImports)+s+")", api.ErrMany)
	}
	failsIn(t, "(import "+strings.Repeat("(m) ", api.MaxImports-1)+" 5 (m))", api.ErrForm)
}

func TestC1Begin(t *testing.T) {
	hasBody(t, "(begin)", "")
	hasBody(t, "(begin 1 (a (b) ()) #f x 'y)", "1 (a (b) ()) #f x 'y")
	hasBody(t, "(begin (begin 1) (export x) (import 5) ())", "(begin 1) (export x) (import 5) ()")
}

func TestC1Include(t *testing.T) {
	hasBody(t, "(include f)", "(define a 1) (define b 2)")
	hasBody(t, "(include f quoted) (begin 1) (include none f)", "(define a 1) (define b 2) 'x #t 1 (define a 1) (define b 2)")
	hasBody(t, "(include none)", "")
	hasBody(t, "(include)", "")
	failsIn(t, "(include zz)", api.ErrNone)
	failsIn(t, "(include f zz)", api.ErrNone)
	for _, s := range []string{"5", "#t", "(f)", "()", "'f"} {
		failsIn(t, "(include "+s+")", api.ErrForm)
		failsIn(t, "(include f "+s+" zz)", api.ErrForm)
		failsIn(t, "(include zz "+s+")", api.ErrNone)
	}
	failsIn(t, "(include open)", api.ErrForm)
	failsIn(t, "(include big)", api.ErrRange)
	failsIn(t, "(include long)", api.ErrName)
	failsIn(t, "(include much)", api.ErrMuch)
	failsIn(t, "(include f big zz)", api.ErrRange)
}

// The first one that has the name counts, whatever the others have; and names are held against each other byte by byte.
func TestC1IncludeFirst(t *testing.T) {
	twice := []api.File{{Name: "F", Text: "1"}, {Name: "", Text: "2"}, {Name: "g ", Text: "3"}, {Name: "g", Text: "("}, {Name: "g", Text: "4"}}
	failsOf(t, twice, datum(t, "(program (include g))"), api.ErrForm)
	failsOf(t, twice, datum(t, "(program (include f))"), api.ErrNone)
	failsOf(t, nil, datum(t, "(program (include g))"), api.ErrNone)
	l, err := lib.Parse(twice[4:], nil, nil, datum(t, "(program (include g))"))
	if err != api.OK || !same(l, api.Lib{Body: data(t, "4")}) {
		t.Errorf("Parse is %v %v", l, err)
	}
}

// What is included might stand there; the document's third example.
func TestC1IncludeExample(t *testing.T) {
	one := []api.File{{Name: "x", Text: "(define x 1)"}}
	a, _ := lib.Parse(one, nil, nil, datum(t, "(library (a) (begin 1) (include x) (begin 2))"))
	b, _ := lib.Parse(nil, nil, nil, datum(t, "(library (a) (begin 1) (begin (define x 1)) (begin 2))"))
	if !same(a, b) || len(a.Body) != 3 {
		t.Errorf("Parse is %v, and %v", a, b)
	}
	c, err := lib.Parse(one, nil, nil, datum(t, "(library (a) (include x))"))
	if err != api.OK || len(c.Body) != 1 {
		t.Errorf("Parse is %v %v", c, err)
	}
}

func TestC1BodyMany(t *testing.T) {
	full := strings.Repeat("1 ", api.MaxBody)
	hasBody(t, "(begin "+full+")", full)
	hasBody(t, "(include full)", full)
	hasBody(t, "(include full none) (begin) (include none)", full)
	hasBody(t, "(begin "+full[2*2:]+")(include f)", full[2*2:]+"(define a 1) (define b 2)")
	failsIn(t, "(begin "+full+" 1)", api.ErrMany)
	failsIn(t, "(begin "+full+") (begin 1)", api.ErrMany)
	failsIn(t, "(begin 1) (include full zz)", api.ErrMany)
	failsIn(t, "(include more)", api.ErrMany)
	failsIn(t, "(include full f)", api.ErrMany)
	failsIn(t, "(begin "+full[2:]+") (include f)", api.ErrMany)
	failsIn(t, "(include full) (include zz)", api.ErrNone)
	failsIn(t, "(include full open)", api.ErrForm)
}

func TestC1CondExpand(t *testing.T) {
	hasBody(t, "(cond-expand)", "")
	hasBody(t, "(cond-expand (fast (begin 1)) (else (begin 2)))", "1")
	hasBody(t, "(cond-expand (slow (begin 1)) (else (begin 2)))", "2")
	hasBody(t, "(cond-expand (slow (begin 1)) (fast (begin 2)) (full (begin 3)))", "2")
	hasBody(t, "(cond-expand (else (begin 1)) (fast (begin 2)))", "1")
	hasBody(t, "(cond-expand (slow (begin 1)) (slower (begin 2)))", "")
	hasBody(t, "(cond-expand (fast) (else (begin 2)))", "")
	hasBody(t, "(begin 0) (cond-expand (fast (begin 1) (include quoted) (begin 2))) (begin 3)", "0 1 'x #t 2 3")
	hasBody(t, "(cond-expand (fast (cond-expand (slow) (else (cond-expand (full (begin 1)))) (else (begin 2))) (begin 3)))", "1 3")
	parses(t, "(library (a) (cond-expand (fast (export x) (import (m)))))", api.Lib{Name: "a", Exports: pairs("x=x"), Imports: []api.Set{of("m")}})
	for _, s := range []string{"x", "5", "()", "(5)", "((5))", "(())"} {
		failsIn(t, "(cond-expand "+s+")", api.ErrForm)
		failsIn(t, "(cond-expand (slow) "+s+" (else))", api.ErrForm)
		hasBody(t, "(cond-expand (fast (begin 1)) "+s+")", "1")
		hasBody(t, "(cond-expand (else (begin 1)) "+s+")", "1")
	}
}

// What a clause declares counts only where it is taken.
func TestC1CondExpandDeclarations(t *testing.T) {
	for _, s := range []string{"x", "5", "()", "(5)", "(x)", "(export 5)"} {
		failsIn(t, "(cond-expand (fast "+s+"))", api.ErrForm)
		failsIn(t, "(cond-expand (else (begin 1) "+s+"))", api.ErrForm)
		hasBody(t, "(cond-expand (slow "+s+") (else (begin 1)))", "1")
		hasBody(t, "(cond-expand (fast (begin 1)) (else "+s+"))", "1")
	}
	failsIn(t, "(cond-expand (fast (include zz)))", api.ErrNone)
	hasBody(t, "(cond-expand (slow (include zz)) (fast))", "")
}
