package expand_test

import (
	"slices"
	"testing"

	"graftwood/api"
	"graftwood/expand"
)

func TestF1Words(t *testing.T) {
	for range 2 {
		specials, prims := expand.Specials(), expand.Prims()
		if !slices.Equal(specials, []string{"begin", "define", "define-syntax", "if", "lambda", "let", "quote", "set!"}) {
			t.Errorf("Specials are %q", specials)
		}
		if !slices.Equal(prims, []string{"*", "+", "-", "<", "=", "car", "cdr", "cons", "eq?", "not", "null?", "out", "pair?"}) {
			t.Errorf("Prims are %q", prims)
		}
		// What is answered is the caller's.
		specials = specials[:cap(specials)]
		prims = prims[:cap(prims)]
		clear(specials)
		clear(prims)
	}
}

func TestF1AllAreWords(t *testing.T) {
	s := scope(t)
	for _, w := range expand.Specials() {
		fails(t, s, 0, w, api.ErrForm)
	}
	for _, w := range expand.Prims() {
		gives(t, s, 0, w, w)
		gives(t, s, 0, "("+w+" 1)", "(call "+w+" 1)")
	}
}

func TestF2Nearest(t *testing.T) {
	s := scope(t)
	gives(t, s, 0, "(lambda (a b) (+ b x))", "(fn2 (seq (call + @0 m.x)))")
	gives(t, s, 0, "(lambda (a b) a)", "(fn2 (seq @1))")
	gives(t, s, 0, "(lambda (a b c) (lambda (d) (a b c d)))", "(fn3 (seq (fn1 (seq (call @3 @2 @1 @0)))))")
	gives(t, s, 0, "(lambda (a b) (lambda (a) (a b)))", "(fn2 (seq (fn1 (seq (call @0 @1)))))")
	gives(t, s, 0, "(lambda (a b) (lambda (b) (a b)) (a b))", "(fn2 (seq (fn1 (seq (call @2 @0))) (call @1 @0)))")
	gives(t, s, 0, "((lambda (x) x) x)", "(call (fn1 (seq @0)) m.x)")
	gives(t, s, 0, "(lambda () (lambda (x) x) x)", "(fn0 (seq (fn1 (seq @0)) m.x))")
	fails(t, s, 0, "(begin (lambda (a) a) a)", api.ErrName)
}

// What a parameter hides is hidden, whatever it is.
func TestF2Hides(t *testing.T) {
	s := scope(t)
	gives(t, s, 0, "(lambda (if) (if 1 2))", "(fn1 (seq (call @0 1 2)))")
	gives(t, s, 0, "(lambda (swap) (swap 1))", "(fn1 (seq (call @0 1)))")
	gives(t, s, 0, "(lambda (car) (car car))", "(fn1 (seq (call @0 @0)))")
	gives(t, s, 0, "(lambda (lambda) (lambda (x) 1 2))", "(fn1 (seq (call @0 (call m.x) 1 2)))")
}

func TestF2Stamps(t *testing.T) {
	s := scope(t)
	what := map[string]api.Datum{"a3": stamped("a", 3, 0), "a3n": stamped("a", 3, 1), "a3none": stamped("a", 3, -7), "a4": stamped("a", 4, 0), "a-1": stamped("a", -1, 0), "a0n": stamped("a", 0, 9)}
	givesOn(t, s, 0, with(t, "(lambda (a a3 a4) (a a3 a4))", what), "(fn3 (seq (call @2 @1 @0)))")
	givesOn(t, s, 0, with(t, "(lambda (a3) (a3n a3none))", what), "(fn1 (seq (call @0 @0)))")
	givesOn(t, s, 0, with(t, "(lambda (a3none a-1) (a3n a-1))", what), "(fn2 (seq (call @1 @0)))")
	givesOn(t, s, 0, with(t, "(lambda (a0n) a)", what), "(fn1 (seq @0))")
	failsOn(t, s, 0, with(t, "(lambda (a3) a4)", what), api.ErrName)
	failsOn(t, s, 0, with(t, "(lambda (a3) a)", what), api.ErrName)
	failsOn(t, s, 0, with(t, "(lambda (a) a3)", what), api.ErrName)
	failsOn(t, s, 0, with(t, "(lambda (a3 a3n) 1)", what), api.ErrName)
}

func TestF2WhichTop(t *testing.T) {
	s := scope(t)
	gives(t, s, 0, "x", "m.x")
	gives(t, s, 1, "x", "n.x")
	gives(t, s, 1, "mx", "m.x")
	fails(t, s, 0, "mx", api.ErrName)
	fails(t, s, 0, "y", api.ErrName)
	for which := range 2 {
		givesOn(t, s, which, stamped("y", 4, 1), "n.y")
		givesOn(t, s, which, stamped("x", 4, 0), "m.x")
		givesOn(t, s, which, stamped("x", -4, 1), "n.x")
		for _, lib := range []int{0, 2, 3, -1, -1 << 63, 1<<63 - 1} {
			failsOn(t, s, which, stamped("y", 4, lib), api.ErrName)
			failsOn(t, s, which, list(stamped("y", 4, lib)), api.ErrName)
		}
	}
	// Without a stamp the library means nothing.
	givesOn(t, s, 0, stamped("x", 0, 1), "m.x")
	givesOn(t, s, 1, stamped("x", 0, -1), "n.x")
}

func TestF2FirstBind(t *testing.T) {
	s := api.Scope{Tops: []api.Top{{Name: "m", Binds: []api.Bind{{Here: "a", Lib: "m", Own: "b"}, {Here: "b", Lib: "q", Own: "a"}, {Here: "a", Lib: "base", Own: "car"}, {Here: "b", Lib: "m", Own: "b"}}}}}
	gives(t, s, 0, "a", "m.b")
	gives(t, s, 0, "b", "q.a")
	fails(t, s, 0, "car", api.ErrName)
	// Names need not be right.
	givesOn(t, api.Scope{Tops: []api.Top{{Binds: []api.Bind{{Here: ""}}}}}, 0, sym(""), ".")
	failsOn(t, s, 0, sym(""), api.ErrName)
	failsOn(t, s, 0, sym("A"), api.ErrName)
}

func TestF2Base(t *testing.T) {
	s := scope(t)
	gives(t, s, 1, "(wenn 1 2 3)", "(if 1 2 3)")
	gives(t, s, 1, "(plus 1 2)", "(call + 1 2)")
	gives(t, s, 1, "plus", "+")
	fails(t, s, 1, "wenn", api.ErrForm)
	fails(t, s, 1, "odd", api.ErrName)
	fails(t, s, 1, "(odd 1)", api.ErrName)
	fails(t, s, 1, "(set! odd 1)", api.ErrName)
	fails(t, s, 1, "(define odd 1)", api.ErrName)
	// The base has no macros, whoever says so, and no library of another name is it.
	s.Macros = append(s.Macros, def(t, "base", "odd", "(_ ...)", "1"), def(t, "base", "car", "(_ e)", "1"), def(t, "base", "if", "(_ e)", "1"))
	s.Tops[1].Binds = append(s.Tops[1].Binds, api.Bind{Here: "bif", Lib: "bas", Own: "if"}, api.Bind{Here: "none", Lib: "", Own: "car"})
	fails(t, s, 1, "(odd 1)", api.ErrName)
	gives(t, s, 1, "(car 1)", "(call car 1)")
	fails(t, s, 1, "(if 1)", api.ErrForm)
	gives(t, s, 1, "(bif none)", "(call bas.if .car)")
	// A top that is called base is none either.
	s.Tops = append(s.Tops, api.Top{Name: "base", Binds: []api.Bind{{Here: "x", Lib: "base", Own: "x"}, {Here: "+", Lib: "base", Own: "+"}}})
	fails(t, s, 2, "x", api.ErrName)
	gives(t, s, 2, "+", "+")
}

func TestF2Macros(t *testing.T) {
	s := scope(t)
	gives(t, s, 0, "(id 5)", "5")
	gives(t, s, 1, "(swap 5 6)", "(call n.swap 5 6)")
	gives(t, s, 1, "swap", "n.swap")
	fails(t, s, 1, "mswap", api.ErrForm)
	fails(t, s, 0, "swap", api.ErrForm)
	// The first one with its Lib and its Own is it, and not the last one.
	fails(t, s, 0, "(swap 1 2)", api.ErrForm)
	fails(t, s, 1, "(mswap 1 2)", api.ErrForm)
	s.Macros = s.Macros[1:]
	gives(t, s, 0, "(swap 1 2)", "5")
	gives(t, s, 1, "(mswap 1 2)", "5")
	s.Macros = nil
	gives(t, s, 0, "(swap 1 2)", "(call m.swap 1 2)")
}

// What a macro speaks of is what its library has: the first top of that name, or none.
func TestF2MacroHome(t *testing.T) {
	s := scope(t)
	for which := range 2 {
		gives(t, s, which, "(x-of)", "m.x")
		gives(t, s, which, "(lambda (x) (x-of))", "(fn1 (seq m.x))")
		gives(t, s, which, "(lambda (x) (x (x-of)))", "(fn1 (seq (call @0 m.x)))")
	}
	s.Tops = append(s.Tops, top("m", "x=q.x x-of=m.x-of"))
	gives(t, s, 2, "(x-of)", "m.x")
	gives(t, s, 2, "x", "q.x")
	s.Tops[0], s.Tops[2] = s.Tops[2], s.Tops[0]
	gives(t, s, 1, "(x-of)", "q.x")
	gives(t, s, 2, "(x-of)", "q.x")
	gives(t, s, 2, "x", "m.x")

	none := api.Scope{Tops: []api.Top{top("n", "x=n.x x-of=m.x-of id=m.id five=m.five")}, Macros: append(s.Macros, def(t, "m", "five", "(_)", "5"))}
	fails(t, none, 0, "(x-of)", api.ErrName)
	gives(t, none, 0, "(id x)", "n.x")
	gives(t, none, 0, "(five)", "5")
}
