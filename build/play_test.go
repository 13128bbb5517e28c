package build_test

import (
	"slices"
	"strings"
	"testing"

	"graftwood/api"
	"graftwood/build"
)

// changed is p with one thing in the text of source at another.
func changed(p api.Project, at int, old, now string) api.Project {
	if !strings.Contains(p.Sources[at].Text, old) {
		panic(old)
	}
	p.Sources = slices.Clone(p.Sources)
	p.Sources[at].Text = strings.Replace(p.Sources[at].Text, old, now, 1)
	return p
}

// three is a library m without macros, one n that needs it, and a program that needs n, and m by way of it.
func three() api.Project {
	return sources(
		library("m", "x f", "", "(define x 5) (define (f a) (+ a x)) (define h 1)"),
		library("n", "y", "(m)", "(define y (f 10)) (define (g) x)"),
		program("(n)", "(out y)"),
	)
}

// macros is likewise, but m has a macro, that n brings out under another name.
func macros() api.Project {
	return sources(
		library("m", "x mac", "", "(define x 5) (define-syntax mac (syntax-rules () ((_ a) (cons a h)))) (define h 1) (define i 2)"),
		library("n", "(rename mac use)", "(m)", "(out (mac x))"),
		program("(n)", "(out (use 3))"),
	)
}

func TestL3Step(t *testing.T) {
	gives(t, three(), "[m][n][]", "15")
	gives(t, macros(), "[m][n][]", "(5 . 1) (3 . 1)")
	s := build.Build(sources("(library (m) (export x) (import (base)) (begin (define x 5)))", "(program (import (base) (m)) (begin (out x)))"))
	want := api.Image{
		Globals: []api.Bind{{Lib: "m", Own: "x"}},
		Protos: []api.Proto{
			{Code: []api.Ins{{Op: api.INum, N: 5}, {Op: api.IDefine}, {Op: api.IPop}, {Op: api.IReturn}}},
			{Code: []api.Ins{{Op: api.IPrim, Own: "out"}, {Op: api.IGlobal}, {Op: api.ICall, A: 1}, {Op: api.IPop}, {Op: api.IReturn}}},
		},
		Starts: []int{0, 1},
	}
	if s.Err != api.OK || bracketed(s.Compiled) != "[m][]" || !same(s.Image, want) {
		t.Errorf("%+v comes", s)
	}
}

// Each library runs once, however many need it.
func TestL3Once(t *testing.T) {
	p := sources(
		library("a", "", "", "(out 'a)"),
		library("b", "", "(a) (a)", "(out 'b)"),
		library("c", "", "(a) (b)", "(out 'c)"),
		program("(c) (a) (b) (prefix (c) x)", "(out 'p)"),
	)
	gives(t, p, "[a][b][c][]", "a b c p")
}

func TestL3Many(t *testing.T) {
	l := make([]api.Project, 10)
	plays(t, l, make([]string, 10)...)
	plays(t, nil)
	for range 2 {
		l = append(l, three())
		if steps, err := build.Play(l); err != api.ErrMany || len(steps) != 0 {
			t.Errorf("%d, and %d steps come of %d projects", err, len(steps), len(l))
		}
	}
}

// Nothing changed, nothing compiled; and only what was read counts.
func TestL3Same(t *testing.T) {
	for _, p := range []api.Project{three(), macros()} {
		turned := api.Project{Sources: slices.Clone(p.Sources)}
		slices.Reverse(turned.Sources)
		for i := range turned.Sources {
			turned.Sources[i].Name = "other"
			turned.Sources[i].Text += " ; the same"
		}
		more := with(p, "f", "(oops")
		more.Features = []string{"fast"}
		plays(t, []api.Project{p, p, turned, more, changed(p, 0, "(base)", "  (base)")}, "[m][n][]", "", "", "", "")
	}
	plays(t, []api.Project{three(), changed(three(), 0, "(export x f)", "(export x) (begin) (export f)")}, "[m][n][]", "")
	// What is included might stand there.
	body := "(program (import (base)) (begin (out 1) (out 2)))"
	cond := sources("(program (cond-expand (fast (import (base)) (include f)) (else (import (base)) (begin (out 1))) ))")
	fast := with(cond, "f", "(out 1) (out 2)")
	fast.Features = []string{"fast"}
	plays(t, []api.Project{sources(body), fast, cond, cond, fast}, "[]", "", "[]", "", "[]")
}

// What a library is inside is its own concern, if it defines no macros.
func TestL3Inside(t *testing.T) {
	p := three()
	plays(t, []api.Project{
		p,
		changed(p, 0, "x 5", "x 6"),
		changed(p, 0, "(+ a x)", "(* a h)"),
		changed(p, 0, "(define h 1)", ""),
		changed(p, 0, "(define h 1)", "(define h 1) (define k 2)"),
		changed(p, 0, "(define x 5)", "(define (x) 5)"),
		changed(p, 0, "(base)", "(base) (prefix (base) b-)"),
	}, "[m][n][]", "[m]", "[m]", "[m]", "[m]", "[m]", "[m]")
	// By another name inside: to others it stands for the same.
	again := sources(library("m", "x", "", "(define x 1)"), library("n", "x", "(m)", ""), program("(n)", "(out x)"))
	renamed := changed(changed(again, 1, "(m)", "(prefix (m) m-)"), 1, "(export x)", "(export (rename m-x x))")
	plays(t, []api.Project{again, renamed, again}, "[m][n][]", "[n]", "[n]")
	plays(t, []api.Project{p, changed(p, 1, "f 10", "f 11"), changed(p, 2, "out y", "out 1")}, "[m][n][]", "[n]", "[n][]")
}

// It must be as it was: whatever differs in what it brings in, or in its body.
func TestL3Parsed(t *testing.T) {
	base := sources(library("m", "x y", "", "(define x 1) (define y 2)"), library("n", "", "(m)", ""), library("k", "x y", "(n)", "(define x 1) (define y 2)"), nothing)
	of := func(sets, body string) api.Project {
		return changed(base, 3, nothing, program("(prefix (k) k-) (prefix (m) m-)"+sets, body))
	}
	var l []api.Project
	for _, set := range strings.Split("|(m)|(k)|(only (m) x)|(only (m) y)|(only (m) x y)|(except (m) x)|(except (m) y)|(only (m))|(prefix (m) p)|(prefix (m) q)|(prefix (k) p)|(rename (m) (x z))|(rename (m) (y z))|(rename (m) (x w))|(rename (m))|(except (m))|(prefix (only (m) x) p)|(prefix (except (m) x) p)|(prefix (prefix (m) x) p)|(m) (m)", "|") {
		l = append(l, of(set, ""))
	}
	for _, body := range strings.Split("|'0|'#f|'()|'1|'#t|'a|'b|'(a)|'(b)|'(a b)|'((a) b)|'(a (b))|1|1 1|1 2|2 1|(define x 1)|(define y 1)|(define (x) 1)|(define-syntax x (syntax-rules ()))", "|") {
		l = append(l, of("", body))
	}
	for i, p := range l {
		for j, q := range l {
			want := "[]"
			if i == j || i == 0 && j == 21 || i == 21 && j == 0 { // both are the program without more
				want = ""
			}
			plays(t, []api.Project{p, q}, "[m][n][k][]", want)
		}
	}
	exports := []string{"", "x", "y", "x y", "y x", "(rename x y)", "(rename y x)", "(rename x y) (rename y x)"}
	for i, a := range exports {
		for j, b := range exports {
			want := "[z]"
			if i == j {
				want = ""
			}
			z := func(exports string) api.Project {
				return sources(nothing, library("z", exports, "", "(define x 1) (define y 2)"))
			}
			plays(t, []api.Project{z(a), z(b)}, "[z][]", want)
		}
	}
}

// What it brings out is everybody's, in its order.
func TestL3Out(t *testing.T) {
	p := three()
	for _, now := range []api.Project{
		changed(p, 0, "(export x f)", "(export f x)"),
		changed(p, 0, "(export x f)", "(export x f h)"),
		changed(p, 0, "(export x f)", "(export x (rename h f))"),
		changed(p, 0, "(export x f)", "(export x f (rename x z))"),
	} {
		plays(t, []api.Project{p, now, now, p}, "[m][n][]", "[m][n][]", "", "[m][n][]")
	}
	// By the same name another thing.
	same := sources(library("m", "x", "", "(define x 1)"), library("n", "x", "", "(define x 1)"), program("(n)", "(out x)"))
	plays(t, []api.Project{same, changed(changed(same, 1, "(define x 1)", ""), 1, "(base)", "(base) (m)")}, "[m][n][]", "[n][]")
}

// A library that defines macros lets others see its top, and these forms.
func TestL3Macros(t *testing.T) {
	p := macros()
	inside := []api.Project{
		changed(p, 0, "x 5", "x 6"),
		changed(p, 0, "(define h 1)", "(define (h) 1)"),
		changed(p, 0, "(define h 1)", "(define h 1) (out 1)"),
		changed(p, 0, "(define h 1) (define i 2)", "(define i 2) (define h 1)"),
		changed(p, 0, "(base)", "(base) (base)"),
	}
	for _, now := range inside {
		plays(t, []api.Project{p, now, now, p}, "[m][n][]", "[m]", "", "[m]")
	}
	outside := []api.Project{
		changed(p, 0, "cons a h", "cons h a"),
		changed(p, 0, "((_ a)", "((mac a)"),
		changed(p, 0, "()", "(=>)"),
		changed(p, 0, "(define i 2)", ""),
		changed(p, 0, "(define i 2)", "(define j 2)"),
		changed(p, 0, "(define i 2)", "(define-syntax i (syntax-rules ()))"),
		changed(p, 0, "(define i 2)", "(define i 2) (define j 2)"),
		changed(p, 0, "(base)", "(base) (rename (only (base) cons) (cons kons))"),
		changed(p, 0, "(export x mac)", "(export mac x)"),
	}
	for _, now := range outside {
		plays(t, []api.Project{p, now, now, p}, "[m][n][]", "[m][n][]", "", "[m][n][]")
	}
	two := changed(p, 0, "(define i 2)", "(define-syntax i (syntax-rules ()))")
	turned := changed(two, 0, "(define x 5)", "(define x 5) (define-syntax i (syntax-rules ()))")
	turned = changed(turned, 0, "(define h 1) (define-syntax i (syntax-rules ()))", "(define h 1)")
	plays(t, []api.Project{two, turned}, "[m][n][]", "[m][n][]")
	// What was none becomes a macro, and back.
	v := three()
	m := changed(v, 0, "(define h 1)", "(define-syntax h (syntax-rules ()))")
	plays(t, []api.Project{v, m, v}, "[m][n][]", "[m][n][]", "[m][n][]")
}

// What a macro's library brings in is on its top: by another name, or another thing.
func TestL3MacroNeeds(t *testing.T) {
	p := sources(
		library("k", "x y", "", "(define x 1) (define y 2)"),
		library("m", "mac", "(k)", "(define-syntax mac (syntax-rules () ((_) x)))"),
		program("(m)", "(out (mac))"),
	)
	gives(t, p, "[k][m][]", "1")
	turned := changed(p, 1, "(k)", "(rename (k) (x y) (y x))")
	gives(t, turned, "[k][m][]", "2")
	plays(t, []api.Project{p, turned, p}, "[k][m][]", "[m][]", "[m][]")
	// That k's y is called x is seen by way of m.
	plays(t, []api.Project{p, changed(p, 0, "(export x y)", "(export (rename x y) (rename y x))")}, "[k][m][]", "[k][m][]")
	plays(t, []api.Project{p, changed(p, 0, "(define x 1)", "(define x 3)")}, "[k][m][]", "[k]")
}

// All that it needs, by way of others, too, must be the same libraries.
func TestL3Needs(t *testing.T) {
	p := sources(library("a", "x", "", "(define x 1)"), library("b", "y", "(a)", "(define y 1)"), library("c", "z", "(b)", "(define z 1)"), program("(c)", "(out z)"))
	less := changed(p, 1, "(a)", "")
	plays(t, []api.Project{p, less, less, p}, "[a][b][c][]", "[b][c][]", "", "[b][c][]")
	// One that nobody needs comes and goes.
	alone := p
	alone.Sources = append(slices.Clone(p.Sources), api.File{Name: "d", Text: library("d", "w", "(b)", "(define w y)")})
	plays(t, []api.Project{p, alone, p, alone, changed(alone, 4, "w y", "w 2"), p}, "[a][b][c][]", "[d]", "", "", "[d]", "")
	// One way to it is as good as another.
	plays(t, []api.Project{p, changed(p, 2, "(b)", "(b) (prefix (a) a-)")}, "[a][b][c][]", "[c]")
}

// Only what was compiled last counts.
func TestL3Last(t *testing.T) {
	p := three()
	q := changed(p, 0, "x 5", "x 6")
	plays(t, []api.Project{p, q, p, p, q}, "[m][n][]", "[m]", "[m]", "", "[m]")
	// A library of the same name in another project is the same library; a program is always called the same.
	other := sources(nothing, library("n", "y", "", "(define y 1)"))
	plays(t, []api.Project{p, other, p, p}, "[m][n][]", "[n][]", "[n][]", "")
	gone := sources(nothing)
	plays(t, []api.Project{p, gone, gone, p}, "[m][n][]", "[]", "", "[]")
	// Not compiled anew, it stays what was compiled last.
	one := func(s string) api.Project { return sources(library("m", "", "", s), nothing) }
	plays(t, []api.Project{one("1"), one("2"), one("2"), one("1"), one("1"), one("2")}, "[m][]", "[m]", "", "[m]", "", "[m]")
}

// What was compiled, was: whatever was wrong behind it. What was not, was not.
func TestL3Wrong(t *testing.T) {
	p := three()
	bad := changed(p, 1, "(f 10)", "(zz)")
	plays(t, []api.Project{bad, bad, p, bad, p}, "[m]", "", "[n][]", "", "")
	plays(t, []api.Project{changed(p, 2, "out y", "zz"), p}, "[m][n]", "[]")
	// Errors ahead of any library compile nothing, and forget nothing.
	plays(t, []api.Project{p, changed(p, 0, "(library", ""), changed(p, 1, "(m)", "(zz)"), sources(p.Sources[0].Text, p.Sources[1].Text), {}, p}, "[m][n][]", "", "", "", "", "")
	// A library that is wrong on its top, or as a macro.
	for _, body := range []string{"(define car 5)", "(define-syntax y 5)", "(define-syntax z (syntax-rules () ((_ ...) 1)))"} {
		wrong := changed(p, 1, "(begin ", "(begin "+body)
		plays(t, []api.Project{wrong, p, wrong, p}, "[m]", "[n][]", "", "")
	}
	// With what a library ahead is now, it is wrong.
	less := changed(p, 0, "(export x f)", "(export x)")
	plays(t, []api.Project{p, less, p, p}, "[m][n][]", "[m]", "[m]", "")
	// What cannot be linked was compiled.
	link := sources("(library (a))", "(program (import (except (base) define)) (begin (define define 5)))")
	plays(t, []api.Project{link, link, sources("(library (a))", nothing), link}, "[a][]", "", "[]", "[]")
}
