package expand_test

import (
	"testing"

	"graftwood/api"
)

func TestF4Quote(t *testing.T) {
	s := scope(t)
	gives(t, s, 0, "'a", "'a")
	gives(t, s, 0, "'5", "'5")
	gives(t, s, 0, "'()", "'()")
	gives(t, s, 0, "'(a 1 #t (zz if) ())", "'(a 1 #1 (zz if) ())")
	gives(t, s, 0, "''a", "'(quote a)")
	gives(t, s, 0, "'(or2 1)", "'(or2 1)")
	gives(t, s, 0, "(lambda (a) 'a)", "(fn1 (seq 'a))")
	fails(t, s, 0, "(quote)", api.ErrForm)
	fails(t, s, 0, "(quote 1 2)", api.ErrForm)
}

func TestF4QuoteStamps(t *testing.T) {
	s := scope(t)
	s.Macros = append(s.Macros, def(t, "m", "q", "(_ e)", "'(a e (b (c e)))"))
	s.Tops[0].Binds = append(s.Tops[0].Binds, api.Bind{Here: "q", Lib: "m", Own: "q"})
	gives(t, s, 0, "(q d)", "'(a d (b (c d)))")
	givesOn(t, s, 0, list(sym("quote"), list(stamped("a", 3, 1), stamped("b", 0, 1), list(stamped("c", -1, 0)))), "'(a b (c))")
	givesOn(t, s, 0, list(sym("quote"), stamped("a", 3, 1)), "'a")
	// What is quoted need not be right.
	odd := list(sym("quote"), list(sym("A"), api.Datum{Kind: 9, N: 3, Name: "x", Stamp: 1, Lib: 2}, api.Datum{Kind: api.DBool, N: 7, Stamp: 1, Lib: 2}, num(1<<62)))
	givesOn(t, s, 0, odd, "'(A ?9 #7 4611686018427387904)")
}

func TestF4If(t *testing.T) {
	s := scope(t)
	gives(t, s, 0, "(if x 2 (f))", "(if m.x 2 (call m.f))")
	for _, form := range []string{"(if)", "(if 1)", "(if 1 2)", "(if 1 2 3 4)", "(if zz 2)", "(if zz zz zz zz)"} {
		fails(t, s, 0, form, api.ErrForm)
	}
	fails(t, s, 0, "(if zz () 3)", api.ErrName)
	fails(t, s, 0, "(if 1 () zz)", api.ErrForm)
	fails(t, s, 0, "(if 1 2 zz)", api.ErrName)
}

func TestF4Begin(t *testing.T) {
	s := scope(t)
	gives(t, s, 0, "(begin 1)", "(seq 1)")
	gives(t, s, 0, "(begin 1 x (begin 2 3))", "(seq 1 m.x (seq 2 3))")
	fails(t, s, 0, "(begin)", api.ErrForm)
	fails(t, s, 0, "(begin zz ())", api.ErrName)
	fails(t, s, 0, "(begin 1 () zz)", api.ErrForm)
	fails(t, s, 0, "(begin (define x 5))", api.ErrForm)
}

func TestF4Lambda(t *testing.T) {
	s := scope(t)
	gives(t, s, 0, "(lambda () 1)", "(fn0 (seq 1))")
	gives(t, s, 0, "(lambda (a) 1 a)", "(fn1 (seq 1 @0))")
	for _, form := range []string{"(lambda)", "(lambda a a)", "(lambda 5 5)", "(lambda ())", "(lambda (a))", "(lambda (1) 2)", "(lambda (a (b)) 2)", "(lambda (a 1 a) 2)"} {
		fails(t, s, 0, form, api.ErrForm)
	}
	fails(t, s, 0, "(lambda (a a) a)", api.ErrName)
	fails(t, s, 0, "(lambda (a b c a) a)", api.ErrName)
	fails(t, s, 0, "(lambda (a a 1) a)", api.ErrName)
	// The body comes behind the parameters, even if there is none.
	fails(t, s, 0, "(lambda (a a))", api.ErrName)
	fails(t, s, 0, "(lambda (a a) ())", api.ErrName)
	fails(t, s, 0, "(lambda (a 1) zz)", api.ErrForm)
	fails(t, s, 0, "(lambda (a b) zz)", api.ErrName)
	fails(t, s, 0, "(lambda (a) (set! car 1) zz)", api.ErrSet)
	// What is around has the same name as often as it likes.
	gives(t, s, 0, "(lambda (a) (lambda (a) (lambda (b a) a)))", "(fn1 (seq (fn1 (seq (fn2 (seq @0))))))")
}

func TestF4Let(t *testing.T) {
	s := scope(t)
	gives(t, s, 0, "(let () 1)", "(call (fn0 (seq 1)))")
	gives(t, s, 0, "(let ((a 1) (b x)) (+ a b) 3)", "(call (fn2 (seq (call + @1 @0) 3)) 1 m.x)")
	gives(t, s, 0, "(let ((a 1)) (let ((a a) (b a)) a))", "(call (fn1 (seq (call (fn2 (seq @1)) @0 @0))) 1)")
	gives(t, s, 0, "(let ((x x)) x)", "(call (fn1 (seq @0)) m.x)")
	for _, form := range []string{"(let)", "(let a 1)", "(let 5 1)", "(let ())", "(let (a) 1)", "(let ((a)) 1)", "(let ((a 1 2)) a)", "(let (()) 1)", "(let ((1 2)) 1)", "(let (((a) 2)) 1)", "(let ((a 1)))"} {
		fails(t, s, 0, form, api.ErrForm)
	}
	fails(t, s, 0, "(let ((a 1) (a 2)) 1)", api.ErrName)
	fails(t, s, 0, "(let ((a 1) (b a)) 1)", api.ErrName)
}

// The pairs' form, then the names, then the body, then the second things.
func TestF4LetOrder(t *testing.T) {
	s := scope(t)
	fails(t, s, 0, "(let ((a 1) (a 2) (b)) 1)", api.ErrForm)
	fails(t, s, 0, "(let ((a 1) (a 2) 5) 1)", api.ErrForm)
	fails(t, s, 0, "(let ((a (set! car 1)) (1 zz)) zz)", api.ErrForm)
	fails(t, s, 0, "(let ((a ()) (a ())))", api.ErrName)
	fails(t, s, 0, "(let ((a ()) (a ())) ())", api.ErrName)
	fails(t, s, 0, "(let ((a zz)))", api.ErrForm)
	fails(t, s, 0, "(let ((a zz)) (set! car 1))", api.ErrSet)
	fails(t, s, 0, "(let ((a ()) (b zz)) (swap 1))", api.ErrNone)
	fails(t, s, 0, "(let ((a ()) (b zz)) a)", api.ErrForm)
	fails(t, s, 0, "(let ((a zz) (b ())) a)", api.ErrName)
}

func TestF4Set(t *testing.T) {
	s := scope(t)
	gives(t, s, 0, "(set! x 5)", "(set m.x 5)")
	gives(t, s, 1, "(set! y (f))", "(set n.y (call m.f))")
	gives(t, s, 0, "(lambda (a b) (set! a b))", "(fn2 (seq (set @1 @0)))")
	gives(t, s, 0, "(lambda (car if swap) (set! car 1) (set! if 2) (set! swap 3))", "(fn3 (seq (set @2 1) (set @1 2) (set @0 3)))")
	for _, form := range []string{"(set!)", "(set! x)", "(set! x 1 2)", "(set! 5 x)", "(set! (x) 1)", "(set! () 1)", "(set! if 5)", "(set! swap 5)", "(set! zz)", "(set! zz 1 2)"} {
		fails(t, s, 0, form, api.ErrForm)
	}
	fails(t, s, 1, "(set! wenn 5)", api.ErrForm)
	fails(t, s, 1, "(set! mswap 5)", api.ErrForm)
	fails(t, s, 1, "(set! mx 5)", api.ErrSet)
	fails(t, s, 0, "(set! car 5)", api.ErrSet)
	fails(t, s, 0, "(set! zz 5)", api.ErrName)
	// The name comes ahead of the expression.
	fails(t, s, 0, "(set! zz ())", api.ErrName)
	fails(t, s, 0, "(set! car zz)", api.ErrSet)
	fails(t, s, 0, "(set! if zz)", api.ErrForm)
	fails(t, s, 0, "(set! x zz)", api.ErrName)
	fails(t, s, 0, "(set! x ())", api.ErrForm)
}

// What which is called tells what it may set: neither its number nor its macros' library does.
func TestF4SetWhich(t *testing.T) {
	s := scope(t)
	s.Macros = append(s.Macros, def(t, "m", "set-x", "(_ e)", "(set! x e)"))
	for i := range s.Tops {
		s.Tops[i].Binds = append(s.Tops[i].Binds, api.Bind{Here: "set-x", Lib: "m", Own: "set-x"})
	}
	gives(t, s, 0, "(set-x 5)", "(set m.x 5)")
	fails(t, s, 1, "(set-x 5)", api.ErrSet)
	givesOn(t, s, 1, list(sym("set!"), stamped("y", 7, 1), num(1)), "(set n.y 1)")
	failsOn(t, s, 0, list(sym("set!"), stamped("y", 7, 1), num(1)), api.ErrSet)
	s.Tops = append(s.Tops, top("m", "other=m.other"))
	gives(t, s, 2, "(set! other 5)", "(set m.other 5)")
	// A library that is called as the base is may set what is the base's, by the words of F4; no special word.
	s.Tops = append(s.Tops, top("base", ""))
	gives(t, s, 3, "(set! car 5)", "(set base.car 5)")
	fails(t, s, 3, "(set! if 5)", api.ErrForm)
}

func TestF4Definitions(t *testing.T) {
	s := scope(t)
	for _, form := range []string{"(f (define x 5))", "(lambda (a) (define x 5))", "(if (define (x) 1) 2 3)", "(define x (define x 1))", "(begin (define zz 5))", "(define-syntax x 5)", "(define-syntax)", "(f (define-syntax x (syntax-rules ())))"} {
		fails(t, s, 0, form, api.ErrForm)
	}
	gives(t, s, 0, "(lambda (define) (define f 5))", "(fn1 (seq (call @0 m.f 5)))")
}
