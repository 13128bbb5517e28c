package build_test

import (
	"fmt"
	"strings"
	"testing"

	"graftwood/api"
)

// inProgram: that is wrong with a program of these sets and this body.
func inProgram(t *testing.T, sets, body string, err api.Errno) {
	t.Helper()
	fails(t, sources("(program (import "+sets+") (begin "+body+"))"), err, "s0", "")
}

func TestL2Sets(t *testing.T) {
	inProgram(t, "(only (base) zz)", "", api.ErrNone)
	inProgram(t, "(except (base) zz)", "", api.ErrNone)
	inProgram(t, "(rename (base) (car cdr))", "", api.ErrFit)
	inProgram(t, "(prefix (base) abcdefghi)", "", api.ErrName)
	// Set by set, and all of them ahead of what they bring together.
	inProgram(t, "(base) (only (base) zz) (rename (base) (car cdr))", "", api.ErrNone)
	inProgram(t, "(base) (rename (base) (car cdr)) (only (base) zz)", "", api.ErrFit)
	inProgram(t, "(base) (rename (only (base) car) (car cdr)) (only (base) zz)", "", api.ErrNone)
	// A library's names are those by which others know it.
	m := library("m", "x (rename y z)", "", "(define x 1) (define y 2) (define w 3)")
	gives(t, sources(m, program("(only (m) x z)", "(out x) (out z)")), "[m][]", "1 2")
	fails(t, sources(m, program("(only (m) y)", "")), api.ErrNone, "s1", "[m]")
	fails(t, sources(m, program("(only (m) w)", "")), api.ErrNone, "s1", "[m]")
	fails(t, sources(m, program("(m)", "y")), api.ErrName, "s1", "[m]")
	gives(t, sources(m, program("(prefix (rename (m) (x w)) m-)", "(out (+ m-w m-z))")), "[m][]", "3")
}

// Of the base all is brought, special words as well.
func TestL2Base(t *testing.T) {
	gives(t, sources(program("", "(define x 5) (define-syntax m (syntax-rules () ((_ a) (begin a)))) (out (if (lambda () 1) (let ((a 'b)) (set! x 6)) 2)) (out (* (+ x 1) (- x 2))) (out (cons (< 1 2) (= 1 2))) (out (car (cdr '(1 2)))) (out (m (eq? 1 (not 2)))) (out (null? 3)) (out (pair? 4))")), "[]", "6 28 (#t . #f) 2 #f #f #f")
	gives(t, sources("(program (import (prefix (base) b-)) (begin (b-out (b-if #f 1 (b-car (b-quote (2)))))))"), "[]", "2")
	inProgram(t, "(prefix (base) b-)", "(b-out '2)", api.ErrName)
}

func TestL2Merge(t *testing.T) {
	m, n := library("m", "x", "", "(define x 1)"), library("n", "x", "", "(define x 2)")
	fails(t, sources(m, n, program("(m) (n)", "")), api.ErrFit, "s2", "[m][n]")
	fails(t, sources(m, program("(rename (m) (x car))", "")), api.ErrFit, "s1", "[m]")
	// What is the same may come by several ways.
	gives(t, sources(m, program("(m) (only (m) x) (base)", "(out x)")), "[m][]", "1")
	again := library("n", "(rename m-x x)", "(prefix (m) m-)", "")
	gives(t, sources(m, again, program("(n) (m)", "(out x)")), "[m][n][]", "1")
	fails(t, sources(m, again, program("(n) (rename (only (base) car) (car x))", "")), api.ErrFit, "s2", "[m][n]")
}

// brings is a library that brings out n macros.
func brings(name string, n int) (source, text string) {
	return "(library (" + name + ") (export " + listed(n, name) + ") (include " + name + "))",
		repeated(n, func(i int) string { return fmt.Sprintf("(define-syntax %s%d (syntax-rules()))", name, i) })
}

func TestL2Names(t *testing.T) {
	for _, x := range []struct {
		b   int
		err api.Errno
	}{{40, api.OK}, {41, api.ErrMany}} {
		sa, ta := brings("a", 160)
		sb, tb := brings("b", x.b)
		p := with(with(sources(sa, sb, "(program (import (a) (b)))"), "a", ta), "b", tb)
		if x.err == api.OK {
			gives(t, p, "[a][b][]", "")
			continue
		}
		fails(t, p, x.err, "s2", "[a][b]")
	}
	// With what is defined, too.
	defined := func(n int, more string) api.Project {
		return with(sources("(program (import (only (base) define out)) (include f))"), "f", defines(n, "x")+more)
	}
	gives(t, defined(198, "(out x197)"), "[]", "197")
	fails(t, defined(199, ""), api.ErrMany, "s0", "")
	fails(t, defined(199, "(define out 5)"), api.ErrMany, "s0", "")
	fails(t, defined(198, "(define out 5)"), api.ErrFit, "s0", "")
	fails(t, defined(198, "(define-syntax x0 5)"), api.ErrFit, "s0", "")
	fails(t, defined(198, "(define-syntax y 5)"), api.ErrMany, "s0", "")
}

func TestL2Defines(t *testing.T) {
	// A name that stands for something: brought, or defined ahead, in whatever way.
	for _, body := range []string{
		"(define car 5)", "(define (car a) a)", "(define-syntax car (syntax-rules ()))", "(define if 5)",
		"(define x 1) (define x 2)", "(define x 1) (define (x) 2)", "(define (x) 1) (define-syntax x 5)", "(define-syntax x 5) (define x 1)",
		"(define x) (define x)", "(define define 5)",
	} {
		inProgram(t, "(base)", body, api.ErrFit)
	}
	// What is none: it stands for nothing.
	inProgram(t, "(base)", "(begin (define x 1))", api.ErrForm)
	inProgram(t, "(base)", "x (define (5 x) 1)", api.ErrName)
	inProgram(t, "(base)", "x (define ((x) y) 1)", api.ErrName)
	inProgram(t, "(base)", "x (define () 1)", api.ErrName)
	inProgram(t, "(base)", "x (define 5 x)", api.ErrName)
	inProgram(t, "(base)", "x (define)", api.ErrName)
	inProgram(t, "(base)", "x (define-syntax (x) 5)", api.ErrName)
	inProgram(t, "(base)", "x (define-syntax)", api.ErrName)
	inProgram(t, "(base)", "x ((define) x 1)", api.ErrName)
	inProgram(t, "(base)", "x 'define ()", api.ErrName)
	// And behind what it is, Expand tells it.
	inProgram(t, "(base)", "(define)", api.ErrForm)
	inProgram(t, "(base)", "(define x)", api.ErrForm)
	inProgram(t, "(base)", "(define x 1 2)", api.ErrForm)
	inProgram(t, "(base)", "(define ((x) y) 1)", api.ErrForm)
	inProgram(t, "(base)", "(define-syntax (x) 5)", api.ErrForm)
	inProgram(t, "(base)", "(define-syntax)", api.ErrForm)
	// A form ahead may speak of what one behind defines.
	gives(t, sources(program("", "(define (f) x) (define x 5) (out (f))")), "[]", "5")
	// What the word stands for does not matter to what is defined, but to what comes of it.
	inProgram(t, "", "(define x 1)", api.ErrName)
	gives(t, sources("(program (import (rename (base) (define def))) (begin (define-syntax define (syntax-rules () ((_ a b) (out b)))) (def f 1) (define f 2) (out f)))"), "[]", "2 1")
	gives(t, sources("(program (begin (define-syntax x (syntax-rules () ((_) 5))) (x)))"), "[]", "")
}

func TestL2Exports(t *testing.T) {
	fails(t, sources(library("a", "x", "", ""), nothing), api.ErrName, "s0", "")
	fails(t, sources(library("a", "(rename y x)", "", "(define x 1)"), nothing), api.ErrName, "s0", "")
	fails(t, sources(library("a", "y x", "", "(define y 1)"), nothing), api.ErrName, "s0", "")
	// Whatever is on the top: what was brought, special words, macros.
	a := library("a", "car (rename if wenn) (rename x y) (rename y x) m", "", "(define x 1) (define y 2) (define-syntax m (syntax-rules () ((_ a) (cons x a))))")
	gives(t, sources(a, "(program (import (a) (only (base) out quote)) (begin (out (wenn #f (car 'a) (car '(7)))) (out x) (out y) (out (m y))))"), "[a][]", "7 2 1 (1 . 1)")
	fails(t, sources(a, "(program (import (a)) (begin (if 1 2 3)))"), api.ErrName, "s1", "[a]")
	// It is another's still: so it isn't set.
	fails(t, sources(a, "(program (import (a) (only (base) set!)) (begin (set! x 3)))"), api.ErrSet, "s1", "[a]")
	b := library("b", "(rename a-x z)", "(prefix (a) a-)", "(out a-x)")
	gives(t, sources(a, b, program("(b)", "(out z)")), "[a][b][]", "2 2")
	fails(t, sources(a, library("b", "(rename a-x z)", "(prefix (a) a-)", "(define a-x 5)"), nothing), api.ErrFit, "s1", "[a]")
	// Behind what is wrong with definitions, ahead of what is wrong with macros.
	fails(t, sources(library("a", "x", "", "(define car 1)"), nothing), api.ErrFit, "s0", "")
	fails(t, sources(library("a", "x", "", "(define-syntax m 5)"), nothing), api.ErrName, "s0", "")
}

func TestL2Macros(t *testing.T) {
	for _, form := range []string{
		"", "5", "m", "()", "(syntax-rules)", "(syntax-rules 5)", "(syntax-rules x)", "(syntax-rules (5))", "(syntax-rules (x ()))", "(rules ())", "((syntax-rules) ())",
		"(syntax-rules () 5)", "(syntax-rules () ())", "(syntax-rules () ((_)))", "(syntax-rules () ((_) 1 2))", "(syntax-rules () ((_) 1) x)",
		"(syntax-rules () ((_) 1)) 5", "(syntax-rules ()) (syntax-rules ())",
		// As Wrong says.
		"(syntax-rules () (x 1))", "(syntax-rules () ((5) 1))", "(syntax-rules () ((_ ... a) 1))", "(syntax-rules () ((_ a ...) a))",
	} {
		inProgram(t, "(base)", "(define-syntax m "+form+")", api.ErrForm)
	}
	inProgram(t, "(base)", "(define-syntax m (syntax-rules () ((_ a a) 1)))", api.ErrName)
	inProgram(t, "(base)", "(define-syntax m (syntax-rules (...)))", api.ErrName)
	inProgram(t, "(base)", "(define-syntax m (syntax-rules (_) ((_ a a) 1)))", api.ErrName)
	inProgram(t, "(base)", "(define-syntax m (syntax-rules () "+strings.Repeat("((_) 1) ", 21)+"))", api.ErrMany)
	inProgram(t, "(base)", "(define-syntax m (syntax-rules ("+listed(21, "x")+")))", api.ErrMany)
	// Form by form: one ahead is told, whatever it is.
	inProgram(t, "(base)", "(define-syntax m 5) (define-syntax n (syntax-rules (_)))", api.ErrForm)
	inProgram(t, "(base)", "(define-syntax n (syntax-rules (_))) (define-syntax m 5)", api.ErrName)
	// All of them ahead of other forms.
	inProgram(t, "(base)", "zz (define-syntax m 5)", api.ErrForm)
	gives(t, sources(program("", "(define-syntax m (syntax-rules ()))")), "[]", "")
	gives(t, sources(program("", "(out (m 1 => 2)) (define-syntax m (syntax-rules (=>) ((_ a b) 0) ((m a => b) (cons b a))))")), "[]", "(2 . 1)")
	gives(t, sources(program("", "(define-syntax m (syntax-rules () ((_ a ...) (begin (out a) ...)))) (m 1 2 3)")), "[]", "1 2 3")
	inProgram(t, "(base)", "(define-syntax m (syntax-rules ())) (m)", api.ErrNone)
}

// What a macro speaks of is what its library has, wherever it is used.
func TestL2Hygiene(t *testing.T) {
	m := library("m", "swap x-of or2 count", "(prefix (k) k-)", "(define x 5) (define-syntax swap (syntax-rules () ((_ a b) (let ((tmp a)) (set! a b) (set! b tmp))))) (define-syntax x-of (syntax-rules () ((_) (cons x (k-get))))) (define-syntax or2 (syntax-rules () ((_) #f) ((_ e r ...) (let ((t e)) (if t t (or2 r ...)))))) (define-syntax count (syntax-rules () ((_) (bump)))) (define (bump) (set! x (+ x 1)) x)")
	k := library("k", "get", "", "(define x 7) (define-syntax get (syntax-rules () ((_) x)))")
	p := program("(m)", "(define tmp 1) (define x 2) (swap tmp x) (out tmp) (out x) (out (x-of)) (out (let ((t 8) (if 1) (let 2)) (or2 #f t))) (count) (out (count)) (out (x-of))")
	gives(t, sources(p, m, k), "[k][m][]", "2 1 (5 . 7) 8 7 (7 . 7)")
	// By a name that is another thing there.
	gives(t, sources(k, m, program("(rename (only (m) or2) (or2 x))", "(out (x #f 3))")), "[k][m][]", "3")
	// Macros bring no definitions, and set nothing of their library elsewhere.
	set := library("s", "m", "", "(define x 5) (define-syntax m (syntax-rules () ((_) (set! x 6)))) (m)")
	fails(t, sources(set, program("(s)", "(m)")), api.ErrSet, "s1", "[s]")
	inProgram(t, "(base)", "(define-syntax def (syntax-rules () ((_ a) (define a 5)))) (def x)", api.ErrForm)
}

func TestL2Expand(t *testing.T) {
	inProgram(t, "(base)", "(car) x (if)", api.ErrName)
	inProgram(t, "(base)", "(car) (if) x", api.ErrForm)
	inProgram(t, "(base)", "(define-syntax m (syntax-rules () ((_) (m)))) (m)", api.ErrSteps)
	inProgram(t, "(base)", "(set! car 5)", api.ErrSet)
	inProgram(t, "(base)", "()", api.ErrForm)
	// Each form has as many uses of macros as there are.
	one := "(define-syntax m (syntax-rules () ((_) 1) ((_ a b ...) (m b ...))))"
	long := "(m" + strings.Repeat(" 1", 390) + ")"
	gives(t, sources(program("", one+long+long+"(out "+long+")")), "[]", "1")
}

// lambdas is a program of so many procedures beside its body.
func lambdas(n int) api.Project {
	three := repeated(n/3, func(int) string { return "(begin (lambda()1) (lambda()1) (lambda()1))" })
	p := with(sources("(library (a))", "(program (import (base)) (include f g))"), "f", three[:len(three)/2])
	return with(p, "g", three[len(three)/2:]+strings.Repeat("(lambda()1)", n%3))
}

func TestL2Compile(t *testing.T) {
	gives(t, lambdas(492+7), "[a][]", "")
	fails(t, lambdas(492+8), api.ErrMuch, "s1", "[a]")
	// Behind what is wrong with any form.
	p := lambdas(492 + 8)
	p.Files[1].Text += " zz"
	fails(t, p, api.ErrName, "s1", "[a]")
}
