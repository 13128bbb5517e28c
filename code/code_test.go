package code_test

import (
	"testing"

	"graftwood/api"
)

func TestH2Alone(t *testing.T) {
	gives(t, num(5), "5", "")
	gives(t, num(-api.MaxInt), "-1000000000000000", "")
	gives(t, boolean(0), "#0", "")
	gives(t, boolean(1), "#1", "")
	gives(t, quote(sym("a")), "'a", "")
	gives(t, quote(list(sym("a"), list(api.Datum{Kind: api.DNum, N: -3}, api.Datum{Kind: api.DBool, N: 1}), list())), "'(a,(-3,#1),())", "")
	gives(t, global("x"), "m.x", "")
	gives(t, api.Core{Kind: api.CGlobal, Lib: "other lib", Own: "y"}, "other lib.y", "")
	gives(t, api.Core{Kind: api.CGlobal}, ".", "")
	gives(t, prim("car"), "car", "")
	gives(t, lambda(0, num(1)), "fn1", " | 0: 1 ret")
	gives(t, lambda(3, local(2)), "fn1", " | 3: @2 ret")
	gives(t, lambda(2, local(0)), "fn1", " | 2: @0 ret")
	gives(t, lambda(api.MaxNodes, local(api.MaxNodes-1)), "fn1", " | 2000: @1999 ret")
}

func TestH2If(t *testing.T) {
	gives(t, choose(num(1), num(2), num(3)), "1 unless4 2 to5 3", "")
	// Within each of its kids.
	in := choose(num(4), num(5), num(6))
	gives(t, choose(in, num(2), num(3)), "4 unless4 5 to5 6 unless8 2 to9 3", "")
	gives(t, choose(num(1), in, num(3)), "1 unless8 4 unless6 5 to7 6 to9 3", "")
	gives(t, choose(num(1), num(2), in), "1 unless4 2 to9 4 unless8 5 to9 6", "")
	// Places go on within a procedure, and begin anew in each.
	makes(t, part(num(9), choose(num(1), num(2), num(3)), in), "0: 9 pop 1 unless6 2 to7 3 pop 4 unless12 5 to13 6 pop ret")
	gives(t, seq(num(9), lambda(0, choose(num(1), num(2), num(3))), choose(num(1), lambda(1, in), num(3))), "9 pop fn1 pop 1 unless8 fn2 to9 3", " | 0: 1 unless4 2 to5 3 ret | 1: 4 unless4 5 to5 6 ret")
}

func TestH2Seq(t *testing.T) {
	gives(t, seq(num(1)), "1", "")
	gives(t, seq(num(1), num(2)), "1 pop 2", "")
	gives(t, seq(num(1), seq(num(2), num(3)), num(4)), "1 pop 2 pop 3 pop 4", "")
}

func TestH2Call(t *testing.T) {
	gives(t, call(global("f")), "m.f call0", "")
	gives(t, call(global("f"), num(1)), "m.f 1 call1", "")
	gives(t, call(prim("cons"), num(1), call(global("f"), num(2))), "cons 1 m.f 2 call1 call2", "")
	gives(t, call(call(num(1))), "1 call0 call0", "")
	gives(t, call(lambda(2, call(local(1), local(0))), prim("car"), quote(sym("a"))), "fn1 car 'a call2", " | 2: @1 @0 call1 ret")
}

func TestH2Set(t *testing.T) {
	gives(t, lambda(2, setLocal(1, num(5))), "fn1", " | 2: 5 set@1 ret")
	gives(t, lambda(1, setLocal(0, setLocal(0, num(5)))), "fn1", " | 1: 5 set@0 set@0 ret")
	gives(t, setGlobal("x", num(5)), "5 set:m.x", "")
	gives(t, define("x", num(5)), "5 def:m.x", "")
	gives(t, define("x", setGlobal("y", lambda(0, define("z", num(1))))), "fn1 set:m.y def:m.x", " | 0: 1 def:m.z ret")
	gives(t, api.Core{Kind: api.CDefine, Lib: "n", Own: "A", Kids: []api.Core{num(1)}}, "1 def:n.A", "")
}

// H2: what comes of forms.
func TestH2Forms(t *testing.T) {
	makes(t, part(cores(t, "(define (f a) (if (< a 1) '(end) (f (- a 1)))) (f 3)")...),
		"0: fn1 def:m.f pop m.f 3 call1 pop ret | 1: < @0 1 call2 unless7 '(end) to13 m.f - @0 1 call2 call1 ret")
	makes(t, part(cores(t, "(let ((a 1) (b x)) (set! b (cons a b)) (out b))")...),
		"0: fn1 1 m.x call2 pop ret | 2: cons @1 @0 call2 set@0 pop out @0 call1 ret")
}

// H2: what a kind has not is left out.
func TestH2LeftOut(t *testing.T) {
	odd := func(kind int, kids ...api.Core) api.Core {
		return api.Core{Kind: kind, Index: 1, N: 1, Lib: "l", Own: "car", Quote: api.Datum{Kind: api.DNum, N: 5}, Kids: kids}
	}
	gives(t, odd(api.CNum), "1", "")
	gives(t, odd(api.CBool), "#1", "")
	gives(t, odd(api.CQuote), "'5", "")
	gives(t, odd(api.CGlobal), "l.car", "")
	gives(t, odd(api.CPrim), "car", "")
	gives(t, odd(api.CLambda, odd(api.CNum)), "fn1", " | 1: 1 ret")
	gives(t, lambda(2, odd(api.CLocal)), "fn1", " | 2: @1 ret")
	gives(t, lambda(2, odd(api.CSetLocal, num(3))), "fn1", " | 2: 3 set@1 ret")
	gives(t, odd(api.CIf, num(1), num(2), num(3)), "1 unless4 2 to5 3", "")
	gives(t, odd(api.CCall, num(1), num(2), num(3)), "1 2 3 call2", "")
	gives(t, odd(api.CSeq, num(1), num(2)), "1 pop 2", "")
	gives(t, odd(api.CSetGlobal, num(2)), "2 set:l.car", "")
	gives(t, odd(api.CDefine, num(2)), "2 def:l.car", "")
	// In what is quoted, too.
	full := api.Datum{N: 1, Name: "abc", Stamp: 3, Lib: 4, Kids: []api.Datum{{Kind: api.DNum, N: 5, Name: "x"}}}
	kinds := list(full, full, full)
	kinds.Name, kinds.N, kinds.Stamp, kinds.Lib = "q", 2, 3, 4
	for i, kind := range []int{api.DNum, api.DBool, api.DList} {
		kinds.Kids[i].Kind = kind
	}
	plain := full
	plain.Kind, plain.Stamp, plain.Lib = api.DSym, 0, 0
	gives(t, quote(kinds), "'(1,#1,(5))", "")
	gives(t, quote(plain), "'abc", "")
}
