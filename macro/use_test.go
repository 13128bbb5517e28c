package macro_test

import (
	"testing"

	"graftwood/api"
	"graftwood/macro"
)

func TestE3Fits(t *testing.T) {
	for _, l := range [][3]string{
		{"", "(m)", "(m)"}, {"", "(m)", "(5)"}, {"", "(m)", "((x y))"}, {"", "(_ a)", "(... 1)"},
		{"", "(m a)", "(m 1)"}, {"", "(m a)", "(m (1 2))"}, {"", "(m a)", "(m ())"}, {"", "(m _ _)", "(m 1 x)"},
		{"", "(m 1)", "(m 1)"}, {"", "(m -7 #t #f)", "(m -7 #t #f)"}, {"", "(m 0)", "(m 0)"},
		{"", "(m ())", "(m ())"}, {"", "(m (a b))", "(m (1 2))"}, {"", "(m (a (1)))", "(m ((2) (1)))"},
		{"", "(m a ...)", "(m)"}, {"", "(m a ...)", "(m 1)"}, {"", "(m a ...)", "(m 1 (2) x)"}, {"", "(m a b ...)", "(m 1)"},
		{"", "(m 1 ...)", "(m 1 1 1)"}, {"", "(m _ ...)", "(m 1 x ())"}, {"", "(m (a 1) ...)", "(m (x 1) ((y) 1))"},
		{"", "(m (a ...))", "(m ())"}, {"", "(m (a b ...) c)", "(m (1) 2)"}, {"", "(m () ...)", "(m () ())"},
		{"=>", "(m a => b)", "(m 1 => 2)"}, {"=>", "(m => ...)", "(m => =>)"}, {"m", "(m m)", "(x m)"}, {"=> b", "(m (b =>) a)", "(m (b =>) =>)"},
	} {
		fits(t, l[0], l[1], l[2])
	}
}

func TestE3FitsNot(t *testing.T) {
	for _, l := range [][3]string{
		{"", "(m)", "(m 1)"}, {"", "(m a)", "(m)"}, {"", "(m a)", "(m 1 2)"}, {"", "(m a b)", "(m 1)"},
		{"", "(m 1)", "(m 2)"}, {"", "(m 1)", "(m #t)"}, {"", "(m #t)", "(m 1)"}, {"", "(m #t)", "(m #f)"}, {"", "(m 0)", "(m x)"}, {"", "(m 0)", "(m ())"},
		{"", "(m ())", "(m 0)"}, {"", "(m ())", "(m x)"}, {"", "(m ())", "(m (1))"}, {"", "(m (a))", "(m ())"}, {"", "(m (a))", "(m (1 2))"}, {"", "(m (a))", "(m 1)"},
		{"", "(m a b ...)", "(m)"}, {"", "(m (a) ...)", "(m (1) 2)"}, {"", "(m (a) ...)", "(m (1) (1 2))"}, {"", "(m 1 ...)", "(m 1 2 1)"}, {"", "(m 1 ...)", "(m 2)"},
		{"", "(m (a ...))", "(m 1)"}, {"", "(m (a ...))", "(m)"}, {"", "(m (a b ...))", "(m ())"},
		{"=>", "(m =>)", "(m x)"}, {"=>", "(m =>)", "(m 1)"}, {"=>", "(m =>)", "(m (=>))"}, {"=>", "(m => ...)", "(m => x)"}, {"=>", "(m a => b)", "(m 1 2 =>)"},
	} {
		fitsNot(t, l[0], l[1], l[2])
	}
}

// A word that stands for itself is told by its name alone, and only a symbol has one.
func TestE3Literal(t *testing.T) {
	m := withLits(rules(t, "(m => a)", "a"), "=>")
	usesOn(t, m, list(sym("m"), api.Datum{Kind: api.DSym, Name: "=>", Stamp: 7, Lib: 9}, num(1)), num(1))
	failsOn(t, m, list(sym("m"), api.Datum{Kind: api.DNum, Name: "=>"}, num(1)), api.ErrNone)
	failsOn(t, m, list(sym("m"), api.Datum{Kind: 0, Name: "=>"}, num(1)), api.ErrNone)
}

func TestE3FirstRule(t *testing.T) {
	m := withLits(rules(t, "(m 1 a)", "(one a)", "(m a => b)", "(b a)", "(m a b)", "(two a b)", "(m a ...)", "(all a ...)", "(m)", "never"), "=>")
	uses(t, m, "(m 1 2)", "(!one 2)")
	uses(t, m, "(m 2 1)", "(!two 2 1)")
	uses(t, m, "(m 1 => f)", "(f 1)")
	uses(t, m, "(m 1 2 f)", "(!all 1 2 f)")
	uses(t, m, "(m)", "(!all)")
	// What a rule met that then did not fit is forgotten.
	m = rules(t, "(m (a b) ... )", "((a ...) b ...)", "(m a b)", "(b a)")
	uses(t, m, "(m (1 2) 3)", "(3 (1 2))")
	m = rules(t, "(m (a 1) ...)", "x", "(m a ...)", "(a ...)")
	uses(t, m, "(m (5 1) (6 1) (7 2))", "((5 1) (6 1) (7 2))")
}

func TestE3None(t *testing.T) {
	fails(t, api.Macro{}, "(m)", api.ErrNone)
	fails(t, rules(t, "(m a)", "a", "(m a b)", "a"), "(m)", api.ErrNone)
}

func TestE3Form(t *testing.T) {
	m := rules(t, "(m a ...)", "x")
	for _, s := range []string{"m", "1", "#t", "()"} {
		fails(t, m, s, api.ErrForm)
		fails(t, api.Macro{}, s, api.ErrForm)
	}
	failsOn(t, m, api.Datum{}, api.ErrForm)
	failsOn(t, m, api.Datum{Kind: 9, Kids: []api.Datum{sym("m")}}, api.ErrForm)
	failsOn(t, m, api.Datum{Kind: api.DSym, Name: "m", Kids: []api.Datum{sym("m")}}, api.ErrForm)
}

func TestE3Much(t *testing.T) {
	m := rules(t, "(m a ...)", "x")
	full := list(sym("m"))
	for range api.MaxNodes - 2 {
		full.Kids = append(full.Kids, num(1))
	}
	usesOn(t, m, full, stamped(t, "!x"))
	more := list(append(full.Kids[:len(full.Kids):len(full.Kids)], num(1))...)
	failsOn(t, m, more, api.ErrMuch)
	more.Kids[5] = api.Datum{Kind: 9, Kids: []api.Datum{num(1), num(2)}}
	usesOn(t, m, list(more.Kids[1:]...), stamped(t, "!x"))
	usesOn(t, m, nested(api.MaxDeep), stamped(t, "!x"))
	failsOn(t, m, nested(api.MaxDeep+1), api.ErrMuch)
	failsOn(t, api.Macro{}, nested(api.MaxDeep+1), api.ErrMuch)
	failsOn(t, rules(t, "(m ...)", "x"), nested(api.MaxDeep+1), api.ErrForm)
}

func TestE4Plain(t *testing.T) {
	uses(t, rules(t, "(m a b)", "(b a tmp)"), "(m 1 (x 2))", "((x 2) 1 !tmp)")
	uses(t, rules(t, "(m a)", "a"), "(m (1 (#t) x))", "(1 (#t) x)")
	uses(t, rules(t, "(m a)", "(a (a a))"), "(m x)", "(x (x x))")
	uses(t, rules(t, "(m)", "(1 -2 #t #f () (x))"), "(m)", "(1 -2 #t #f () (!x))")
	uses(t, rules(t, "(m)", "m"), "(m)", "!m")
	uses(t, rules(t, "(m m)", "m"), "(m 7)", "7")
	uses(t, rules(t, "(m _)", "(_ m)"), "(m 7)", "(!_ !m)")
	uses(t, withLits(rules(t, "(m => a)", "(=> a)"), "=>"), "(m => 1)", "(!=> 1)")
	uses(t, rules(t, "(m a)", "(quote a)"), "(m 1)", "(!quote 1)")
}

func TestE4Many(t *testing.T) {
	uses(t, rules(t, "(m x y ...)", "(f x (y t) ...)"), "(m 1 2 3)", "(!f 1 (2 !t) (3 !t))")
	m := rules(t, "(m (n v) ...)", "((n ...) (v ...) ((n v) ...))")
	uses(t, m, "(m)", "(() () ())")
	uses(t, m, "(m (a 1) (b 2))", "((a b) (1 2) ((a 1) (b 2)))")
	m = rules(t, "(m a (b c ...) d)", "(d c ... b a)")
	uses(t, m, "(m 1 (2 3 4) 5)", "(5 3 4 2 1)")
	uses(t, m, "(m 1 (2) 5)", "(5 2 1)")
	m = rules(t, "(m a b ...)", "((a b a) ... (a) b ... 1)")
	uses(t, m, "(m 1 2 3)", "((1 2 1) (1 3 1) (1) 2 3 1)")
	uses(t, m, "(m 1)", "((1) 1)")
	uses(t, rules(t, "(m (a ...) (b ...))", "(((a) (x (b))) ...)"), "(m (1 2) (3 4))", "(((1) (!x (3))) ((2) (!x (4))))")
	uses(t, rules(t, "(m (_ a 1) ...)", "(a ...)"), "(m (x 2 1) (y 3 1))", "(2 3)")
	uses(t, rules(t, "(m a ...)", "((((a))) ...)"), "(m 1 2)", "((((1))) (((2))))")
}

func TestE4Fit(t *testing.T) {
	m := rules(t, "(m (a ...) (b ...))", "((a b) ...)")
	uses(t, m, "(m () ())", "()")
	fails(t, m, "(m (1 2) (3))", api.ErrFit)
	fails(t, m, "(m (1) (2 3))", api.ErrFit)
	fails(t, m, "(m () (3))", api.ErrFit)
	fails(t, m, "(m (1) ())", api.ErrFit)
	fails(t, rules(t, "(m (a ...) (b ...) (c ...))", "(x ((y (a)) (a b) (c)) ...)"), "(m (1) (2) ())", api.ErrFit)
	fails(t, rules(t, "(m (a ...) (b ...))", "(a ... (b ...) ((a (b)) ...))"), "(m (1 2) (3))", api.ErrFit)
	fails(t, rules(t, "(m (a ...) b ...)", "(x (y (a b) ...))"), "(m (1) 2 3)", api.ErrFit)
	uses(t, rules(t, "(m (a ...) (b ...))", "((a ...) (b ...))"), "(m (1 2) (3))", "((1 2) (3))")
	// The rule was chosen: another one that would do is not asked.
	fails(t, rules(t, "(m (a ...) (b ...))", "((a b) ...)", "(m a ...)", "x"), "(m (1) ())", api.ErrFit)
}

func TestE4Stamps(t *testing.T) {
	m := rules(t, "(m a)", "(a b)")
	old := api.Datum{Kind: api.DSym, Name: "q", Stamp: 5, Lib: 2}
	for _, n := range []int{0, 1, -1, 1 << 62, -1 << 63} {
		d, err := macro.Use(m, list(sym("m"), old), n, -n-1)
		if want := list(old, api.Datum{Kind: api.DSym, Name: "b", Stamp: n, Lib: -n - 1}); err != api.OK || !same(d, want) {
			t.Errorf("Use is %v %v, not %v", d, err, want)
		}
	}
}

// What is handed in need not be right; what its kinds have not is left out.
func TestE4Odd(t *testing.T) {
	m := rules(t, "(m a b ...)", "(a b ...)")
	junk := []api.Datum{num(1)}
	form := list(api.Datum{}, api.Datum{Kind: 9, N: 1, Name: "n", Stamp: 2, Lib: 3, Kids: junk},
		api.Datum{Kind: api.DNum, N: 1 << 62, Name: "n", Stamp: 2, Lib: 3, Kids: junk}, api.Datum{Kind: api.DBool, N: -7, Name: "n", Stamp: 2, Lib: 3, Kids: junk},
		api.Datum{Kind: api.DSym, N: 1, Name: "A b", Stamp: 2, Lib: 3, Kids: junk}, api.Datum{Kind: api.DList, N: 1, Name: "n", Stamp: 2, Lib: 3, Kids: junk},
		api.Datum{Kind: -1, Kids: junk}, api.Datum{Kind: api.DSym})
	usesOn(t, m, form, list(api.Datum{Kind: 9}, num(1<<62), api.Datum{Kind: api.DBool, N: -7}, api.Datum{Kind: api.DSym, Name: "A b", Stamp: 2, Lib: 3}, list(num(1)), api.Datum{Kind: -1}, api.Datum{Kind: api.DSym}))
	// What kinds have not is left out of patterns and templates likewise.
	tmpl := list(api.Datum{Kind: api.DNum, N: 4, Name: "a", Kids: junk, Stamp: 1}, api.Datum{Kind: api.DBool, N: 1, Name: "...", Lib: 2}, api.Datum{Kind: api.DSym, Name: "a", N: 3, Kids: junk}, api.Datum{Kind: api.DList, Name: "a", N: 3, Stamp: 8})
	pat := list(sym("m"), api.Datum{Kind: api.DSym, Name: "a", Kids: []api.Datum{sym("...")}}, api.Datum{Kind: api.DNum, Name: "...", N: 2, Kids: junk}, api.Datum{Kind: api.DList, Name: "a", N: 7})
	usesOn(t, api.Macro{Rules: []api.Rule{{Pat: pat, Tmpl: tmpl}}}, datum(t, "(m x 2 ())"), datum(t, "(4 #t x ())"))
}

func TestE4Much(t *testing.T) {
	// 1 + 3 * 665 = 1996 nodes, and four more.
	m := rules(t, "(m a b ...)", "(a a a b ...)")
	part := list()
	for range 664 {
		part.Kids = append(part.Kids, num(1))
	}
	form := list(sym("m"), part, num(1), num(2), num(3), num(4))
	want := list(append([]api.Datum{part, part, part}, form.Kids[2:]...)...)
	usesOn(t, m, form, want)
	form.Kids = append(form.Kids, num(5))
	failsOn(t, m, form, api.ErrMuch)

	uses(t, rules(t, "(m a)", "(((a)))"), "(m x)", "(((x)))")
	in := func(n int) api.Datum { return list(sym("m"), nested(n)) }
	usesOn(t, rules(t, "(m a)", "a"), in(api.MaxDeep-1), nested(api.MaxDeep-1))
	usesOn(t, rules(t, "(m a)", "(a)"), in(api.MaxDeep-1), nested(api.MaxDeep))
	failsOn(t, rules(t, "(m a)", "((a))"), in(api.MaxDeep-1), api.ErrMuch)
	usesOn(t, rules(t, "(m a ...)", "((a) ...)"), in(api.MaxDeep-2), nested(api.MaxDeep))
	failsOn(t, rules(t, "(m a ...)", "((a) ...)"), in(api.MaxDeep-1), api.ErrMuch)
	failsOn(t, api.Macro{Rules: []api.Rule{{Pat: datum(t, "(m a)"), Tmpl: nested(api.MaxDeep-1, list(sym("a")))}}}, datum(t, "(m ())"), api.ErrMuch)
}

// Though what comes first is too much, it is told that something does not fit.
func TestE4FitFirst(t *testing.T) {
	m := rules(t, "(m (a ...) (b ...))", "(a ... a ... a ... ((a b) ...))")
	long := list()
	for range 900 {
		long.Kids = append(long.Kids, num(1))
	}
	failsOn(t, m, list(sym("m"), long, long), api.ErrMuch)
	failsOn(t, m, list(sym("m"), long, list()), api.ErrFit)
}

// What would be of billions of nodes is not made ahead of being refused.
func TestE4Huge(t *testing.T) {
	tmpl := list()
	for range 900 {
		tmpl.Kids = append(tmpl.Kids, sym("a"))
	}
	tmpl.Kids = append(tmpl.Kids, sym("b"))
	m := api.Macro{Rules: []api.Rule{{Pat: datum(t, "(m a b ...)"), Tmpl: list(tmpl, sym("..."))}}}
	form := list(sym("m"), datum(t, "("+ones(900)+")"))
	usesOn(t, m, form, list())
	for range 900 {
		form.Kids = append(form.Kids, num(2))
	}
	failsOn(t, m, form, api.ErrMuch)
}
