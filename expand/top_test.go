package expand_test

import (
	"testing"

	"graftwood/api"
)

func TestF5Define(t *testing.T) {
	s := scope(t)
	gives(t, s, 0, "(define x 5)", "(def m.x 5)")
	gives(t, s, 0, "(define x (f x))", "(def m.x (call m.f m.x))")
	gives(t, s, 0, "(define (x) 1)", "(def m.x (fn0 (seq 1)))")
	gives(t, s, 0, "(define (x a b) a b)", "(def m.x (fn2 (seq @1 @0)))")
	gives(t, s, 0, "(define (f x) (f x))", "(def m.f (fn1 (seq (call m.f @0))))")
	gives(t, s, 0, "(define (f f) f)", "(def m.f (fn1 (seq @0)))")
	gives(t, s, 1, "(define y (or 1))", "(def n.y (call (fn1 (seq (if @0 @0 #0))) 1))")
}

func TestF5Form(t *testing.T) {
	s := scope(t)
	for _, form := range []string{"(define)", "(define x)", "(define zz)", "(define (x))", "(define (zz))", "(define x 1 2)", "(define zz 1 2)", "(define 5 1)", "(define #t 1)", "(define () 1)", "(define (5) 1)", "(define (5 a) 1)", "(define ((x)) 1)", "(define ((x) a) 1)", "(define (x 5) 1)", "(define (x a a))", "(define (x a 5 a) 1)", "(define (x a) ())"} {
		fails(t, s, 0, form, api.ErrForm)
	}
	fails(t, s, 0, "(define (x a a) 1)", api.ErrName)
	fails(t, s, 0, "(define (x a a) ())", api.ErrName)
	fails(t, s, 0, "(define (x a) zz)", api.ErrName)
	failsOn(t, s, 0, list(sym("define"), api.Datum{Kind: 9, Name: "x"}, num(1)), api.ErrForm)
}

func TestF5Name(t *testing.T) {
	s := scope(t)
	for _, form := range []string{"(define car 5)", "(define if 5)", "(define define 5)", "(define swap 5)", "(define (car) 5)", "(define (swap) 5)", "(define (if a a) 5)", "(define car zz)", "(define swap ())"} {
		fails(t, s, 0, form, api.ErrSet)
	}
	fails(t, s, 1, "(define mx 5)", api.ErrSet)
	fails(t, s, 1, "(define f 5)", api.ErrSet)
	fails(t, s, 1, "(define mswap 5)", api.ErrSet)
	gives(t, s, 1, "(define swap 5)", "(def n.swap 5)")
	fails(t, s, 0, "(define zz 5)", api.ErrName)
	// From the left: the name, its parameters, the body.
	fails(t, s, 0, "(define (zz 5) ())", api.ErrName)
	fails(t, s, 0, "(define zz ())", api.ErrName)
	fails(t, s, 0, "(define (car 5) zz)", api.ErrSet)
	// It has Lib and Own of what it stands for, whatever it is called here.
	s.Tops[0].Binds = append(s.Tops[0].Binds, api.Bind{Here: "here", Lib: "m", Own: "there"})
	gives(t, s, 0, "(define here 5)", "(def m.there 5)")
	givesOn(t, s, 1, list(sym("define"), stamped("y", 2, 1), num(5)), "(def n.y 5)")
	failsOn(t, s, 1, list(sym("define"), stamped("x", 2, 0), num(5)), api.ErrSet)
	// A library that is called as the base is may define what is the base's, by the words of F5.
	s.Tops = append(s.Tops, top("base", ""))
	gives(t, s, 2, "(define car 5)", "(def base.car 5)")
	gives(t, s, 2, "(define if 5)", "(def base.if 5)")
}

// What stands for define is it, whatever it is called; what is called so may be something else.
func TestF5Word(t *testing.T) {
	s := api.Scope{Tops: []api.Top{{Name: "m", Binds: []api.Bind{{Here: "def", Lib: "base", Own: "define"}, {Here: "define", Lib: "m", Own: "f"}, {Here: "x", Lib: "m", Own: "x"}}}}}
	gives(t, s, 0, "(def x 5)", "(def m.x 5)")
	gives(t, s, 0, "(define x 5)", "(call m.f m.x 5)")
	fails(t, s, 0, "(define (def x 5))", api.ErrForm)
	givesOn(t, s, 0, list(stamped("def", 3, 0), sym("x"), num(5)), "(def m.x 5)")
	failsOn(t, s, 0, list(stamped("def", 3, 1), sym("x"), num(5)), api.ErrName)
	failsOn(t, s, 0, list(api.Datum{Kind: api.DNum, Name: "def"}, sym("zz"), num(5)), api.ErrName)
}

// What a macro makes is an expression: it defines nothing.
func TestF5NotByMacros(t *testing.T) {
	s := scope(t)
	s.Macros = append(s.Macros, def(t, "m", "set-up", "(_ a e)", "(define a e)"))
	s.Tops[0].Binds = append(s.Tops[0].Binds, api.Bind{Here: "set-up", Lib: "m", Own: "set-up"})
	fails(t, s, 0, "(set-up x 5)", api.ErrForm)
	fails(t, s, 0, "(id (define x 5))", api.ErrForm)
}
