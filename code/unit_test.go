package code_test

import (
	"slices"
	"testing"

	"graftwood/api"
	"graftwood/code"
	"graftwood/model"
)

func TestH1Body(t *testing.T) {
	makes(t, api.Part{}, "0: ret")
	makes(t, api.Part{Name: "a b"}, "0: ret")
	// Any text may be a name.
	makes(t, api.Part{Name: "\x00(\xff" + string(make([]byte, 500)), Body: []api.Core{num(1)}}, "0: 1 pop ret")
	makes(t, part(num(5)), "0: 5 pop ret")
	makes(t, part(num(1), boolean(0), num(3)), "0: 1 pop #0 pop 3 pop ret")
	makes(t, part(define("x", num(1)), global("x")), "0: 1 def:m.x pop m.x pop ret")
}

// H1: as they are met, from the left, each ahead of those in it.
func TestH1Numbers(t *testing.T) {
	f := func(n int64, l ...api.Core) api.Core {
		return lambda(int(n), seq(append([]api.Core{num(n)}, l...)...))
	}
	makes(t, part(f(1), f(2)), "0: fn1 pop fn2 pop ret | 1: 1 ret | 2: 2 ret")
	makes(t, part(f(1, f(2, f(3)), f(4)), f(5)),
		"0: fn1 pop fn5 pop ret | 1: 1 pop fn2 pop fn4 ret | 2: 2 pop fn3 ret | 3: 3 ret | 4: 4 ret | 5: 5 ret")
	makes(t, part(call(f(1), f(2, f(3)), f(4))),
		"0: fn1 fn2 fn4 call2 pop ret | 1: 1 ret | 2: 2 pop fn3 ret | 3: 3 ret | 4: 4 ret")
	makes(t, part(choose(f(1, f(2)), f(3), define("x", f(4))), setGlobal("x", f(5))),
		"0: fn1 unless4 fn3 to6 fn4 def:m.x pop fn5 set:m.x pop ret | 1: 1 pop fn2 ret | 2: 2 ret | 3: 3 ret | 4: 4 ret | 5: 5 ret")
	makes(t, part(lambda(1, setLocal(0, f(2)))), "0: fn1 pop ret | 1: fn2 set@0 ret | 2: 2 ret")
}

// H1: the error of Wrong, of the part alone.
func TestH1Wrong(t *testing.T) {
	deep := num(1)
	for range api.MaxNest {
		deep = seq(deep)
	}
	for _, c := range []api.Core{
		{}, {Kind: 14}, {Kind: -1},
		{Kind: api.CNum, N: api.MaxInt + 1},
		{Kind: api.CBool, N: 2},
		local(0), lambda(1, local(1)), setLocal(0, num(1)), lambda(-1, num(1)), lambda(api.MaxNodes+1, num(1)),
		prim("if"), prim(""),
		quote(api.Datum{}), quote(sym("A")), quote(api.Datum{Kind: api.DSym, Name: "a", Stamp: 1}), quote(list(sym("a"), api.Datum{Kind: api.DNum, N: 1 << 62})),
		seq(), call(), choose(num(1), num(2), seq()), {Kind: api.CIf, Kids: times(2, num(1))}, {Kind: api.CNum, Kids: times(1, num(1))},
		seq(times(api.MaxCore, num(1))...), deep,
	} {
		for _, p := range []api.Part{part(c), part(num(1), c, num(2)), part(lambda(0, call(prim("car"), c)))} {
			want := model.Wrong([]api.Part{p}).Err
			if want == api.OK {
				t.Errorf("%.300v is right", p)
			}
			fails(t, p, want)
		}
	}
	fails(t, part(api.Core{}), api.ErrKind)
	fails(t, part(num(1), seq()), api.ErrMany)
	fails(t, part(local(0)), api.ErrRange)
	fails(t, part(prim("if")), api.ErrName)
	fails(t, part(quote(api.Datum{Kind: api.DSym, Name: "a", Lib: 1})), api.ErrFit)
	fails(t, part(deep), api.ErrMuch)
	fails(t, part(times(api.MaxBody+1, num(1))...), api.ErrMany)
	makes(t, part(deep.Kids[0]), "0: 1 pop ret")
}

// H1: what is wrong is told ahead of what is too much.
func TestH1WrongFirst(t *testing.T) {
	many := call(times(api.MaxProtos, lambda(0, num(1)))...)
	fails(t, part(many), api.ErrMuch)
	fails(t, part(many, api.Core{}), api.ErrKind)
	fails(t, part(append(times(api.MaxBody, many), num(1))...), api.ErrMany)
	fails(t, part(many, local(0)), api.ErrRange)
}

func TestH1Procedures(t *testing.T) {
	f := lambda(0, num(1))
	chain := num(1)
	for range 200 {
		chain = lambda(0, chain)
	}
	few := call(times(98, f)...)
	for _, body := range [][]api.Core{
		{call(times(api.MaxProtos-2, f)...)},
		{chain, call(times(298, f)...)},
		{chain, choose(chain, few, num(1))},
		append(times(4, few), call(times(106, f)...)),
		append(times(100, lambda(0, seq(f, f, f))), times(98, f)...),
	} {
		protos := func(l []api.Core) int {
			u, err := code.Compile(part(l...))
			if err != api.OK {
				t.Errorf("%d expressions: %v", len(body), err)
			}
			return len(u.Protos)
		}
		if n := protos(body); n != api.MaxProtos-1 {
			t.Errorf("%d procedures, not one less than there may be", n)
		}
		if n := protos(append(slices.Clip(body), f)); n != api.MaxProtos {
			t.Errorf("%d procedures, not as many as there may be", n)
		}
		fails(t, part(append(slices.Clip(body), f, f)...), api.ErrMuch)
		fails(t, part(append([]api.Core{lambda(0, f)}, body...)...), api.ErrMuch)
	}
}

// H1: as many instructions as a procedure may have, one less, and one more: by whichever kinds.
func TestH1Instructions(t *testing.T) {
	length := func(l []api.Core) int {
		u, err := code.Compile(part(l...))
		if err != api.OK {
			t.Fatalf("%d expressions: %v", len(l), err)
		}
		return len(u.Protos[0].Code)
	}
	for _, c := range []api.Core{
		num(1), boolean(1), quote(list(sym("a"))), global("x"), prim("car"), lambda(1, seq(local(0), num(2), num(3))),
		choose(num(1), num(2), num(3)), call(num(1)), call(num(1), num(2), num(3)), seq(num(1)), seq(num(1), num(2), num(3)),
		setGlobal("x", num(1)), define("x", num(1)), choose(seq(num(1), num(2)), choose(num(1), num(2), num(3)), call(num(1), num(2))),
	} {
		for _, many := range []api.Core{call(times(180, c)...), seq(times(180, c)...)} {
			body := []api.Core{many, many}
			// Calls fill what is left: each has an instruction for each kid, and two more.
			left := api.MaxCode - length(body)
			for left > 2800 {
				body, left = append(body, call(times(2000, num(1))...)), left-2002
			}
			fill := func(n int) []api.Core { return append(slices.Clip(body), call(times(n-2, num(1))...)) }
			for _, n := range []int{left - 1, left} {
				if got := length(fill(n)); got != api.MaxCode-left+n {
					t.Errorf("%d instructions", got)
				}
			}
			fails(t, part(fill(left+1)...), api.ErrMuch)
			fails(t, part(fill(left+2)...), api.ErrMuch)
		}
	}
}

// H1: a procedure is long by itself: what those in it have is theirs.
func TestH1InstructionsEach(t *testing.T) {
	long := lambda(0, seq(times(api.MaxCore-2, num(1))...))
	u, err := code.Compile(part(times(api.MaxBody, long)...))
	if err != api.OK || len(u.Protos) != api.MaxBody+1 || len(u.Protos[0].Code) != 2*api.MaxBody+1 {
		t.Fatalf("%d procedures, %v", len(u.Protos), err)
	}
	for _, p := range u.Protos[1:] {
		if len(p.Code) != 2*(api.MaxCore-2) {
			t.Errorf("%d instructions", len(p.Code))
		}
	}
}
