package expand_test

import (
	"strings"
	"testing"

	"graftwood/api"
)

func TestF3Alone(t *testing.T) {
	s := scope(t)
	gives(t, s, 0, "5", "5")
	gives(t, s, 0, "-12", "-12")
	gives(t, s, 0, "#t", "#1")
	gives(t, s, 0, "#f", "#0")
	gives(t, s, 0, "x", "m.x")
	gives(t, s, 0, "car", "car")
	fails(t, s, 0, "zz", api.ErrName)
	fails(t, s, 0, "let", api.ErrForm)
	fails(t, s, 0, "or2", api.ErrForm)
	fails(t, s, 0, "(lambda (a) or2)", api.ErrForm)
	fails(t, s, 0, "()", api.ErrForm)
	fails(t, s, 0, "(x ())", api.ErrForm)
}

// Data need not be right; what a kind has not means nothing.
func TestF3Odd(t *testing.T) {
	s := scope(t)
	kids := []api.Datum{sym("zz")}
	givesOn(t, s, 0, api.Datum{Kind: api.DNum, N: 1<<63 - 1, Name: "x", Stamp: 4, Lib: 9, Kids: kids}, "9223372036854775807")
	givesOn(t, s, 0, api.Datum{Kind: api.DBool, N: -3, Name: "x", Stamp: 4, Lib: 9, Kids: kids}, "#-3")
	givesOn(t, s, 0, api.Datum{Kind: api.DSym, N: 8, Name: "x", Kids: kids}, "m.x")
	givesOn(t, s, 0, api.Datum{Kind: api.DList, N: 8, Name: "zz", Stamp: 4, Lib: 9, Kids: []api.Datum{sym("x")}}, "(call m.x)")
	for _, kind := range []int{0, 5, -1, 1 << 40} {
		odd := api.Datum{Kind: kind, N: 1, Name: "x", Kids: []api.Datum{sym("x")}}
		failsOn(t, s, 0, odd, api.ErrForm)
		failsOn(t, s, 0, list(odd), api.ErrForm)
		failsOn(t, s, 0, list(sym("x"), odd), api.ErrForm)
	}
}

func TestF3Call(t *testing.T) {
	s := scope(t)
	gives(t, s, 0, "(x)", "(call m.x)")
	gives(t, s, 0, "(f 1 x car)", "(call m.f 1 m.x car)")
	gives(t, s, 0, "(5 6)", "(call 5 6)")
	gives(t, s, 0, "(#f)", "(call #0)")
	gives(t, s, 0, "((f 1) (f 2))", "(call (call m.f 1) (call m.f 2))")
	fails(t, s, 0, "(f zz)", api.ErrName)
	fails(t, s, 0, "(zz 1)", api.ErrName)
	fails(t, s, 0, "(f if)", api.ErrForm)
}

// From the first one on: whichever is met first is told.
func TestF3FromTheLeft(t *testing.T) {
	s := scope(t)
	fails(t, s, 0, "(f zz ())", api.ErrName)
	fails(t, s, 0, "(f () zz)", api.ErrForm)
	fails(t, s, 0, "(zz ())", api.ErrName)
	fails(t, s, 0, "(() zz)", api.ErrForm)
	fails(t, s, 0, "((f ()) zz)", api.ErrForm)
	fails(t, s, 0, "(f (set! car 1) zz)", api.ErrSet)
	fails(t, s, 0, "(f (swap 1) zz)", api.ErrNone)
}

func TestF3Macro(t *testing.T) {
	s := scope(t)
	gives(t, s, 0, "(or2)", "#0")
	gives(t, s, 0, "(or2 1)", "(call (fn1 (seq (if @0 @0 #0))) 1)")
	gives(t, s, 1, "(or 1)", "(call (fn1 (seq (if @0 @0 #0))) 1)")
	gives(t, s, 0, "(f (id (id x)))", "(call m.f m.x)")
	gives(t, s, 0, "((id f) 1)", "(call m.f 1)")
	fails(t, s, 0, "(id)", api.ErrNone)
	fails(t, s, 0, "(id ())", api.ErrForm)
	fails(t, s, 0, "(id zz)", api.ErrName)
	fails(t, s, 0, "(id if)", api.ErrForm)
	fails(t, s, 0, "(id (define x 5))", api.ErrForm)
}

// What a macro brings catches nothing, and is not caught.
func TestF3Hygiene(t *testing.T) {
	s := scope(t)
	gives(t, s, 0, "(let ((t 5)) (or2 #f t))", "(call (fn1 (seq (call (fn1 (seq (if @0 @0 (call (fn1 (seq (if @0 @0 #0))) @1)))) #0))) 5)")
	gives(t, s, 0, "(let ((tmp 1) (b 2)) (swap tmp b) (cons tmp b))", "(call (fn2 (seq (call (fn1 (seq (set @2 @1) (set @1 @0))) @1) (call cons @1 @0))) 1 2)")
	gives(t, s, 0, "(let ((if 1) (let 2) (b 3)) (or2 if))", "(call (fn3 (seq (call (fn1 (seq (if @0 @0 #0))) @2))) 1 2 3)")
	gives(t, s, 0, "(lambda (if let t) (or2 if t))", "(fn3 (seq (call (fn1 (seq (if @0 @0 (call (fn1 (seq (if @0 @0 #0))) @1)))) @2)))")
	gives(t, s, 1, "(lambda (or2 set!) (mswap or2 set!))", "(fn2 (seq (call (fn1 (seq (set @2 @1) (set @1 @0))) @1)))")
}

// The stamp is how many macros have been used so far, wherever that was.
func TestF3Stamp(t *testing.T) {
	s := scope(t)
	s.Macros = append(s.Macros, def(t, "m", "fn", "(_ e)", "(lambda (a) e)"))
	s.Tops[0].Binds = append(s.Tops[0].Binds, api.Bind{Here: "fn", Lib: "m", Own: "fn"})
	what := map[string]api.Datum{"a1": stamped("a", 1, 1), "a2": stamped("a", 2, 1), "a3": stamped("a", 3, 1), "a4": stamped("a", 4, 1)}
	givesOn(t, s, 0, with(t, "(fn a1)", what), "(fn1 (seq @0))")
	failsOn(t, s, 0, with(t, "(fn a2)", what), api.ErrName)
	failsOn(t, s, 0, with(t, "(fn a)", what), api.ErrName)
	givesOn(t, s, 0, with(t, "(fn (fn (a1 a2)))", what), "(fn1 (seq (fn1 (seq (call @1 @0)))))")
	givesOn(t, s, 0, with(t, "(f (id 1) (fn a2) (id (fn a4)))", what), "(call m.f 1 (fn1 (seq @0)) (fn1 (seq @0)))")
	failsOn(t, s, 0, with(t, "(f (id 1) (fn a2) (id (fn a3)))", what), api.ErrName)
	// The body is met ahead of what a let's names stand for.
	givesOn(t, s, 0, with(t, "(let ((b (fn a2))) (fn a1))", what), "(call (fn1 (seq (fn1 (seq @0)))) (fn1 (seq @0)))")
	// A second call begins anew.
	givesOn(t, s, 0, with(t, "(fn a1)", what), "(fn1 (seq @0))")
}

func ids(n int) string { return strings.Repeat("(id 1) ", n) }

func TestF3Uses(t *testing.T) {
	s := scope(t)
	gives(t, s, 0, "(f "+ids(api.MaxUses)+")", "(call m.f"+strings.Repeat(" 1", api.MaxUses)+")")
	fails(t, s, 0, "(f "+ids(api.MaxUses+1)+")", api.ErrSteps)
	fails(t, s, 0, "(loop 1)", api.ErrSteps)
	fails(t, s, 0, "(f (loop 1) zz)", api.ErrSteps)
	fails(t, s, 0, "(f zz (loop 1))", api.ErrName)
	// Ahead of what Use says; what Use said ahead is told.
	fails(t, s, 0, "(f "+ids(api.MaxUses)+"(id))", api.ErrSteps)
	fails(t, s, 0, "(f "+ids(api.MaxUses-1)+"(id) (id 1))", api.ErrNone)
	fails(t, s, 0, "(f "+ids(api.MaxUses)+"zz (id 1))", api.ErrName)
}

func TestF3UseErrors(t *testing.T) {
	s := api.Scope{Tops: []api.Top{top("m", "many=m.many form=m.form name=m.name fit=m.fit none=m.none much=m.much deep=m.deep twice=m.twice kind=m.kind")}}
	s.Macros = []api.Def{
		{Lib: "m", Own: "many", Macro: api.Macro{Rules: make([]api.Rule, api.MaxRules+1)}},
		def(t, "m", "form", "(... a)", "a"),
		{Lib: "m", Own: "name", Macro: api.Macro{Lits: []string{"_"}}},
		def(t, "m", "fit", "(_ (a ...) (b ...))", "(+ (a b) ...)"),
		def(t, "m", "none", "(_ 1)", "1"),
		def(t, "m", "much", "(_ a ...)", "((a ...) (a ...) (a ...))"),
		def(t, "m", "deep", "(_ a)", "(quote (a))"),
		def(t, "m", "twice", "(_ a a)", "a"),
		{Lib: "m", Own: "kind", Macro: api.Macro{Rules: []api.Rule{{Pat: list(sym("m")), Tmpl: api.Datum{}}}}},
	}
	fails(t, s, 0, "(many 1)", api.ErrMany)
	fails(t, s, 0, "(form 1)", api.ErrForm)
	fails(t, s, 0, "(name 1)", api.ErrName)
	fails(t, s, 0, "(fit (1 2) (3))", api.ErrFit)
	fails(t, s, 0, "(none 2)", api.ErrNone)
	fails(t, s, 0, "(twice 1 2)", api.ErrName)
	fails(t, s, 0, "(kind)", api.ErrKind)
	fails(t, s, 0, "(much "+strings.Repeat("1 ", 700)+")", api.ErrMuch)
	fails(t, s, 0, "(deep "+strings.Repeat("(", 39)+strings.Repeat(")", 39)+")", api.ErrMuch)
	// What is not used is not looked at.
	gives(t, s, 0, "(lambda (many) (many 1))", "(fn1 (seq (call @0 1)))")
	gives(t, s, 0, "'(form 1)", "'(form 1)")
}
