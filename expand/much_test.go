package expand_test

import (
	"strings"
	"testing"

	"graftwood/api"
)

func TestF6Which(t *testing.T) {
	s := scope(t)
	for _, which := range []int{-1, 2, 3, -1 << 63, 1<<63 - 1} {
		fails(t, s, which, "5", api.ErrRange)
		fails(t, s, which, "zz", api.ErrRange)
		failsOn(t, s, which, deepQuote(50), api.ErrRange)
	}
	fails(t, api.Scope{}, 0, "5", api.ErrRange)
	gives(t, api.Scope{Tops: make([]api.Top, 1)}, 0, "5", "5")
}

// deepQuote is a quotation that is nested so deep.
func deepQuote(deep int) api.Datum {
	d := list()
	for range deep - 2 {
		d = list(d)
	}
	return list(sym("quote"), d)
}

// ones is l, and so many ones behind it.
func ones(n int, l ...api.Datum) api.Datum {
	for range n {
		l = append(l, num(1))
	}
	return list(l...)
}

func TestF6Data(t *testing.T) {
	s := scope(t)
	givesOn(t, s, 0, ones(api.MaxNodes-2, sym("f")), "(call m.f"+strings.Repeat(" 1", api.MaxNodes-2)+")")
	failsOn(t, s, 0, ones(api.MaxNodes-1, sym("f")), api.ErrMuch)
	failsOn(t, s, 0, ones(api.MaxNodes-1, sym("zz")), api.ErrMuch)
	failsOn(t, s, 0, ones(api.MaxNodes-1, sym("quote")), api.ErrMuch)
	failsOn(t, s, 0, list(sym("quote"), ones(api.MaxNodes-3)), api.OK)
	failsOn(t, s, 0, list(sym("quote"), ones(api.MaxNodes-2)), api.ErrMuch)
	failsOn(t, s, 0, list(sym("f"), list(), ones(api.MaxNodes-3)), api.ErrMuch)
	givesOn(t, s, 0, deepQuote(api.MaxDeep), "'"+strings.Repeat("(", api.MaxDeep-1)+strings.Repeat(")", api.MaxDeep-1))
	failsOn(t, s, 0, deepQuote(api.MaxDeep+1), api.ErrMuch)
	failsOn(t, s, 0, list(sym("zz"), deepQuote(api.MaxDeep)), api.ErrMuch)
	// What is no list has nothing in it.
	givesOn(t, s, 0, api.Datum{Kind: api.DNum, N: 5, Kids: make([]api.Datum, 3000)}, "5")
}

// filled has so many core nodes, and then last.
func filled(t *testing.T, nodes int, last string) (api.Scope, string) {
	t.Helper()
	s := scope(t)
	s.Macros = append(s.Macros, def(t, "m", "thousand", "(_)", "(begin "+strings.Repeat("1 ", 999)+")"))
	s.Tops[0].Binds = append(s.Tops[0].Binds, api.Bind{Here: "thousand", Lib: "m", Own: "thousand"})
	return s, "(begin (thousand) (thousand) " + strings.Repeat("1 ", nodes-2001) + last + ")"
}

// Each kind of node is counted, once.
func TestF6Nodes(t *testing.T) {
	for _, l := range []struct {
		form  string
		nodes int
	}{
		{"1", 1}, {"#t", 1}, {"x", 1}, {"car", 1}, {"'(a b c)", 1}, {"(f 1)", 3}, {"(if 1 2 3)", 4}, {"(begin 1 2)", 3}, {"(lambda (a b) a)", 3},
		{"(let ((a 1) (b 2)) 3)", 6}, {"(set! x 1)", 2}, {"(lambda (a) (set! a 1))", 4}, {"(id (id 1))", 1}, {"(or2 1)", 8},
	} {
		s, form := filled(t, api.MaxCore-l.nodes, l.form)
		fails(t, s, 0, form, api.OK)
		for n := 1; n <= l.nodes; n++ {
			s, form = filled(t, api.MaxCore-l.nodes+n, l.form)
			fails(t, s, 0, form, api.ErrMuch)
		}
	}
	s, form := filled(t, api.MaxCore-1, "")
	gives(t, s, 0, "(define x "+form+")", "(def m.x (seq"+strings.Repeat(" (seq"+strings.Repeat(" 1", 999)+")", 2)+strings.Repeat(" 1", 998)+"))")
	s, form = filled(t, api.MaxCore, "")
	fails(t, s, 0, "(define x "+form+")", api.ErrMuch)
	s, form = filled(t, api.MaxCore-3, "")
	fails(t, s, 0, "(define (x) "+form+")", api.OK)
	s, form = filled(t, api.MaxCore-2, "")
	fails(t, s, 0, "(define (x) "+form+")", api.ErrMuch)
}

// The node behind the last one that there may be: what is wrong with its form, its name, its parameters is told ahead of it, what is wrong with its kids is not.
func TestF6NodesInOrder(t *testing.T) {
	for _, l := range []struct {
		form string
		want api.Errno
	}{
		{"()", api.ErrForm}, {"zz", api.ErrName}, {"if", api.ErrForm}, {"(if 1 2)", api.ErrForm}, {"(quote)", api.ErrForm}, {"(begin)", api.ErrForm}, {"(let (a) 1)", api.ErrForm}, {"(lambda a 1)", api.ErrForm},
		{"(set! zz 1)", api.ErrName}, {"(set! car 1)", api.ErrSet}, {"(set! if 1)", api.ErrForm}, {"(lambda (1) 1)", api.ErrForm}, {"(lambda (a a) 1)", api.ErrName},
		{"(f zz)", api.ErrMuch}, {"(() 1)", api.ErrMuch}, {"(if zz 1 1)", api.ErrMuch}, {"(begin zz)", api.ErrMuch}, {"(set! x zz)", api.ErrMuch}, {"(lambda (a) zz)", api.ErrMuch}, {"(let ((a 1) (a 2)) zz)", api.ErrMuch},
		{"(swap 1)", api.ErrNone}, {"(define x 1)", api.ErrForm},
	} {
		s, form := filled(t, api.MaxCore, l.form)
		fails(t, s, 0, form, l.want)
	}
	// Of a let the call is one node, and the procedure another, behind its names.
	s, form := filled(t, api.MaxCore-1, "(let ((a 1) (a 2)) zz)")
	fails(t, s, 0, form, api.ErrName)
	s, form = filled(t, api.MaxCore-1, "(let ((a 1) (b 2)) zz)")
	fails(t, s, 0, form, api.ErrMuch)
	// From the left.
	s, form = filled(t, api.MaxCore-1, "zz 1 1")
	fails(t, s, 0, form, api.ErrName)
	s, form = filled(t, api.MaxCore-1, "1 1 zz")
	fails(t, s, 0, form, api.ErrMuch)
}

// deepCore is a form whose core expression is nested so deep, by a macro that makes it 36 deeper, and by begin.
func deepCore(t *testing.T, deep int, inner string) (api.Scope, string) {
	t.Helper()
	s := scope(t)
	s.Macros = append(s.Macros, def(t, "m", "wrap", "(_ e)", strings.Repeat("(let () ", 12)+"e"+strings.Repeat(")", 12)))
	s.Tops[0].Binds = append(s.Tops[0].Binds, api.Bind{Here: "wrap", Lib: "m", Own: "wrap"})
	wraps, begins := (deep-1)/36, (deep-1)%36
	return s, strings.Repeat("(begin ", begins) + strings.Repeat("(wrap ", wraps) + inner + strings.Repeat(")", begins+wraps)
}

func TestF6Nest(t *testing.T) {
	s, form := deepCore(t, api.MaxNest, "1")
	fails(t, s, 0, form, api.OK)
	s, form = deepCore(t, api.MaxNest+1, "1")
	fails(t, s, 0, form, api.ErrMuch)
	s, form = deepCore(t, api.MaxNest-1, "1")
	fails(t, s, 0, "(f 1 "+form+" 2)", api.OK)
	fails(t, s, 0, "(define x "+form+")", api.OK)
	fails(t, s, 0, "(f (f 1 "+form+" 2))", api.ErrMuch)
	// In the end: what is wrong elsewhere is told ahead.
	s, form = deepCore(t, api.MaxNest, "1")
	fails(t, s, 0, "(f "+form+")", api.ErrMuch)
	fails(t, s, 0, "(f "+form+" zz)", api.ErrName)
	fails(t, s, 0, "(f "+form+" (loop 1))", api.ErrSteps)
	// What is quoted is not nested.
	s, form = deepCore(t, api.MaxNest, "'((a))")
	fails(t, s, 0, form, api.OK)
}
