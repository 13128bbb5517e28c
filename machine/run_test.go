package machine_test

import (
	"fmt"
	"reflect"
	"slices"
	"strings"
	"testing"

	"graftwood/api"
	"graftwood/expand"
	"graftwood/machine"
)

func TestK2Range(t *testing.T) {
	for _, im := range []api.Image{{}, body("ret"), body("out 5 call1 pop ret"), body("get0 pop ret")} {
		for _, n := range []int{-1, api.MaxSteps + 1, 1<<63 - 1, -1 << 63} {
			res, err := machine.Run(im, n)
			if err != api.ErrRange || !reflect.DeepEqual(res, api.Result{}) {
				t.Errorf("with %d steps: %v, %v", n, res, err)
			}
		}
		for _, n := range []int{0, 1, api.MaxSteps - 1, api.MaxSteps} {
			if res, err := machine.Run(im, n); err != api.OK || res.How == 0 {
				t.Errorf("with %d steps: %v, %v", n, res, err)
			}
		}
	}
	// What is wrong comes ahead.
	res, err := machine.Run(body("if pop ret"), -1)
	if err != api.ErrName || !reflect.DeepEqual(res, api.Result{}) {
		t.Errorf("%v, %v", res, err)
	}
}

// K2: each instruction that is come to is a step.
func TestK2Steps(t *testing.T) {
	for s, n := range map[string]int{
		"ret": 1, "1 pop ret": 3, "out 5 call1 pop ret": 5, "to1 ret": 2, "1 unless2 ret": 3,
		"#1 unless4 1 to5 2 pop ret": 6, "#0 unless4 1 to5 2 pop ret": 5,
		"fn1 call0 pop ret | 0: 1 ret": 6, "fn1 7 call1 pop ret | 1: @0 set@0 ret": 8,
		"fn1 def0 pop get0 call0 pop get0 call0 pop ret | 0: #1 ret": 14, "1 def0 set0 def1 get1 pop pop ret": 8, "'(a,b,c) pop ret": 3,
		"get0 pop ret": 1, "1 set0 pop ret": 2, "5 call0 pop ret": 2, "car 1 2 call2 pop ret": 4, "car 1 call1 pop ret": 3, "fn1 1 call1 pop ret | 0: 1 ret": 3,
	} {
		takes(t, body(s), n)
	}
	takes(t, api.Image{}, 0)
	takes(t, image(0, "0: ret | 0: 1 pop ret | 0: ret", 0, 1, 2), 5)
	takes(t, image(0, "0: fn2 pop ret | 0: 1 pop ret | 0: 5 ret", 0, 1), 6)
	// What was done stays done, and nothing more is.
	for n, want := range [][]string{0: nil, 1: nil, 2: nil, 3: {"5"}, 4: {"5"}, 5: {"5"}, 6: {"5"}, 7: {"5", "6"}, 8: {"5", "6"}} {
		ends(t, body("out 5 call1 pop out 6 call1 pop ret"), n, api.RunSteps, want...)
	}
	ends(t, body("out 5 call1 pop out 6 call1 pop ret"), 9, api.RunDone, "5", "6")
	ends(t, alone(times(1000, num(1), pop)...), 2000, api.RunSteps)
	ends(t, alone(times(1000, num(1), pop)...), 2001, api.RunDone)
}

// K2: as many steps as there may be are done.
func TestK2MaxSteps(t *testing.T) {
	im := body("fn1 def0 pop get0 call0 pop ret | 0: 1 ret")
	im.Protos[1].Code = append(times(2499, num(1), pop), num(1), ret)
	im.Protos[0].Code = append(append([]api.Ins{with(api.IClosure, 1), with(api.IDefine, 0), pop}, times(199, with(api.IGlobal, 0), with(api.ICall, 0), pop)...), ret)
	used := 4 + 199*5003
	ends(t, im, used-1, api.RunSteps)
	ends(t, im, used, api.RunDone)
	left := api.MaxSteps - used
	im.Protos = append(im.Protos, proto(0, append(times((left-1)/2, num(1), pop), times((left-1)%2, with(api.IJump, left-1))...)...))
	im.Protos[2].Code = append(im.Protos[2].Code, ret)
	im.Starts = []int{0, 2}
	ends(t, im, api.MaxSteps, api.RunDone)
	ends(t, im, api.MaxSteps-1, api.RunSteps)
	im.Protos = append(im.Protos, proto(0, ret))
	im.Starts = append(im.Starts, 3)
	ends(t, im, api.MaxSteps, api.RunSteps)
}

func TestK2Starts(t *testing.T) {
	ends(t, image(0, "0: out 1 call1 pop ret | 0: out 2 call1 pop ret | 0: out 3 call1 pop ret", 0, 1, 2), 15, api.RunDone, "1", "2", "3")
	// What is no start runs only if it is called.
	ends(t, image(0, "0: fn1 pop ret | 0: out 1 call1 ret | 0: fn3 call0 pop ret | 0: out 2 call1 ret", 0, 2), 100, api.RunDone, "2")
	// Globals are all starts'; an end ends all of them.
	ends(t, image(2, "0: 5 def1 pop ret | 0: get1 def0 pop ret | 0: out get0 call1 pop ret", 0, 1, 2), 100, api.RunDone, "5")
	ends(t, image(2, "0: get0 pop ret | 0: 1 def0 pop ret", 0, 1), 100, api.RunName)
	ends(t, image(2, "0: out 1 call1 pop ret | 0: get0 pop ret | 0: out 2 call1 pop ret", 0, 1, 2), 100, api.RunName, "1")
	// A procedure that another one made.
	ends(t, image(2, "0: fn1 def0 pop ret | 1: fn2 ret | 1: + @0 @1 call2 ret | 0: get0 4 call1 def1 pop ret | 0: out get1 3 call1 call1 pop ret", 0, 3, 4), 100, api.RunDone, "7")
}

func TestK2Values(t *testing.T) {
	for s, want := range map[string]string{
		"5": "5", "-1": "-1", "0": "0", "1000000000000000": "1000000000000000", "-1000000000000000": "-1000000000000000",
		"#0": "#f", "#1": "#t", "'a": "a", "'7": "7", "'#t": "#t", "'#f": "#f", "'()": "()", "'(a,(b,1),#t,())": "(a (b 1) #t ())", "'(a,.,b)": "(a . b)", "car": "#p", "out": "#p",
	} {
		puts(t, s, want)
	}
	does(t, "out fn1 call1 pop ret | 3: 1 ret", "#p")
	// What is quoted is new pairs each time, and a procedure is a new one.
	does(t, "fn1 def0 pop out eq? get0 call0 get0 call0 call2 call1 pop ret | 0: '(a) ret", "#f")
	does(t, "fn1 def0 pop out eq? get0 call0 get0 call0 call2 call1 pop ret | 0: '() ret", "#t")
	does(t, "fn1 def0 pop out eq? get0 call0 get0 call0 call2 call1 pop ret | 0: 'a ret", "#t")
	does(t, "fn1 def0 pop out eq? get0 call0 get0 call0 call2 call1 pop ret | 0: fn2 ret | 0: 1 ret", "#f")
	does(t, "fn1 def0 def1 pop out eq? get0 get1 call2 call1 pop ret | 0: 1 ret", "#t")
	does(t, "'(a,(b)) def0 pop out eq? cdr get0 call1 cdr get0 call1 call2 call1 pop out eq? get0 get0 call2 call1 pop ret", "#t", "#t")
}

func TestK2Local(t *testing.T) {
	for i, want := range []string{"3", "2", "1"} {
		does(t, fmt.Sprintf("out fn1 1 2 3 call3 call1 pop ret | 3: @%d ret", i), want)
	}
	for i, want := range []string{"4", "3", "2", "1"} {
		does(t, fmt.Sprintf("out fn1 1 call1 2 3 call2 call0 4 call1 call1 pop ret | 1: fn2 ret | 2: fn3 ret | 0: fn4 ret | 1: @%d ret", i), want)
	}
	// Each call has parameters of its own, each procedure those that were around where it was made.
	does(t, "fn1 def0 1 call1 def1 pop get0 2 call1 def2 pop out get1 call0 call1 pop out get2 call0 call1 pop ret | 1: fn2 ret | 0: @0 ret", "1", "2")
	does(t, "fn1 def0 pop out get0 3 call1 call1 pop ret | 1: = @0 0 call2 unless7 0 to16 + @0 get0 - @0 1 call2 call1 call2 ret", "6")
}

func TestK2SetLocal(t *testing.T) {
	// What is set stays on top, and is the parameter from now on, of all that are around it.
	does(t, "fn1 5 call1 pop ret | 1: out @0 call1 pop out 6 set@0 call1 pop out @0 call1 ret", "5", "6", "6")
	does(t, "out fn1 1 2 3 call3 call1 pop ret | 3: 9 set@1 pop cons @0 cons @1 @2 call2 call2 ret", "(3 9 . 1)")
	does(t, "fn1 10 call1 def0 pop out get0 1 call1 call1 pop out get0 1 call1 call1 pop ret | 1: fn2 ret | 1: + @1 @0 call2 set@1 ret", "11", "12")
	does(t, "fn1 1 call1 def0 pop out car get0 call1 call0 call1 pop cdr get0 call1 7 call1 pop out car get0 call1 call0 call1 pop ret | 1: cons fn2 fn3 call2 ret | 0: @0 ret | 1: @0 set@1 ret", "1", "7")
	// What was handed in is another variable.
	does(t, "1 def0 pop fn1 get0 call1 pop out get0 call1 pop ret | 1: 2 set@0 ret", "1")
	// Two calls do not share them.
	does(t, "fn1 def0 pop get0 1 call1 def1 pop get0 1 call1 def2 pop get1 call0 pop out get1 call0 call1 pop out get2 call0 call1 pop ret | 1: fn2 ret | 0: + @0 1 call2 set@0 ret", "3", "2")
}

func TestK2Globals(t *testing.T) {
	stops(t, "get0 pop ret", api.RunName)
	stops(t, "1 def0 pop get1 pop ret", api.RunName)
	stops(t, "out 1 call1 pop get2 pop ret", api.RunName, "1")
	stops(t, "1 set0 pop ret", api.RunName)
	stops(t, "out 1 call1 set0 pop ret", api.RunName, "1")
	stops(t, "1 def1 pop 1 set0 pop ret", api.RunName)
	does(t, "1 def0 pop out get0 call1 pop 2 set0 pop out get0 call1 pop 3 def0 pop out get0 call1 pop ret", "1", "2", "3")
	does(t, "out 1 def0 call1 pop out 2 set0 call1 pop out get0 call1 pop ret", "1", "2", "2")
	// What is defined is so, whatever it is.
	for s, want := range map[string]string{"#0": "#f", "'()": "()", "0": "0", "car": "#p"} {
		does(t, s+" def0 pop out get0 call1 pop 1 set0 pop ret", want)
	}
	// Each is one of its own; none is called anything.
	does(t, "1 def0 pop 2 def1 pop 3 def2 pop out cons get2 cons get1 get0 call2 call2 call1 pop ret", "(3 2 . 1)")
	// One that is not come to defines nothing.
	stops(t, "#0 unless5 1 def0 to6 1 pop get0 pop ret", api.RunName)
	// Nothing is kept from run to run.
	im := body("get0 pop ret")
	ends(t, body("1 def0 pop ret"), 10, api.RunDone)
	ends(t, im, 10, api.RunName)
}

func TestK2Jumps(t *testing.T) {
	const choose = " unless5 out 1 to7 out 2 call1 pop ret"
	for _, s := range []string{"#1", "0", "1", "'a", "'()", "'(a)", "car", "'#t"} {
		does(t, s+choose, "1")
	}
	for _, s := range []string{"#0", "'#f"} {
		does(t, s+choose, "2")
	}
	does(t, "not 1 call1 unless7 out 1 to9 out 2 call1 pop ret", "2")
	does(t, "not #0 call1 unless7 out 1 to9 out 2 call1 pop ret", "1")
	// What is tested goes; a jump takes nothing.
	does(t, "out + 1 #0 unless5 2 call2 call1 pop ret | ", "3")
	does(t, "out + 1 to4 2 call2 call1 pop ret", "3")
	does(t, "to1 to2 to3 out 4 call1 pop ret", "4")
	// Over several returns.
	does(t, "fn1 def0 pop out get0 #1 call1 call1 pop out get0 #0 call1 call1 pop ret | 1: @0 unless4 1 ret 2 ret", "1", "2")
}

func TestK2Return(t *testing.T) {
	// What lies below stays; what lies on top is the value.
	does(t, "out cons 1 cons fn1 2 call1 3 call2 call2 call1 pop ret | 1: cons @0 @0 call2 ret", "(1 (2 . 2) . 3)")
	does(t, "out fn1 call0 call1 pop out 4 call1 pop ret | 0: fn2 call0 ret | 0: fn3 call0 ret | 0: 7 ret", "7", "4")
	// What called goes on where it was, with its own parameters.
	does(t, "out fn1 1 call1 call1 pop ret | 1: cons @0 cons fn2 2 3 call2 @0 call2 call2 ret | 2: 9 set@2 pop - @0 @1 call2 ret", "(1 1 . 9)")
}

func TestK2Call(t *testing.T) {
	for _, s := range []string{"5", "#0", "#1", "'a", "'()", "'(car)", "cons 1 2 call2"} {
		stops(t, s+" call0 pop ret", api.RunType)
		stops(t, s+" 1 2 3 call3 pop ret", api.RunType)
	}
	for params := range 4 {
		for args := range 4 {
			how := api.RunArgs
			if params == args {
				how = api.RunDone
			}
			stops(t, fmt.Sprintf("fn1%s call%d pop ret | %d: 1 ret", strings.Repeat(" 7", args), args, params), how)
		}
	}
	for _, s := range expand.Prims() {
		takes := 2
		if slices.Contains([]string{"car", "cdr", "not", "null?", "pair?", "out"}, s) {
			takes = 1
		}
		for n := range 5 {
			res, err := machine.Run(body(s+strings.Repeat(" 1", n)+fmt.Sprintf(" call%d pop ret", n)), 100)
			if err != api.OK || (res.How == api.RunArgs) != (n != takes) {
				t.Errorf("%s with %d ends with %v, %v", s, n, res, err)
			}
		}
	}
	// As many as there may be.
	args := append([]api.Ins{prim("out"), with(api.IClosure, 1)}, times(api.MaxNodes, num(7))...)
	im := alone(append(args, with(api.ICall, api.MaxNodes), with(api.ICall, 1), pop)...)
	im.Protos = append(im.Protos, proto(api.MaxNodes, with(api.ILocal, api.MaxNodes-1), ret))
	ends(t, im, api.MaxSteps, api.RunDone, "7")
}

func TestK2Prims(t *testing.T) {
	for s, want := range map[string]string{
		"+ 1 2 call2": "3", "- 1 2 call2": "-1", "* 3 -4 call2": "-12", "< 1 2 call2": "#t", "< 2 1 call2": "#f", "= 1 2 call2": "#f", "= 2 2 call2": "#t",
		"cons 1 2 call2": "(1 . 2)", "cons 1 '(2) call2": "(1 2)", "car '(a,b) call1": "a", "cdr '(a,b) call1": "(b)", "null? '() call1": "#t", "null? 0 call1": "#f",
		"pair? '(a) call1": "#t", "pair? '() call1": "#f", "not #0 call1": "#t", "not 0 call1": "#f", "eq? 'a 'a call2": "#t", "eq? 'a 'b call2": "#f", "eq? car car call2": "#t", "eq? '(a) '(a) call2": "#f",
		"* 1000000 1000000000 call2": "1000000000000000", "- 0 1000000000000000 call2": "-1000000000000000",
	} {
		puts(t, s, want)
	}
	for s, how := range map[string]int{
		"+ 'a 1 call2": api.RunType, "- 1 #1 call2": api.RunType, "* car 1 call2": api.RunType, "< 1 '() call2": api.RunType, "= '(1) 1 call2": api.RunType, "car '() call1": api.RunType, "cdr 5 call1": api.RunType,
		"+ 1000000000000000 1 call2": api.RunRange, "- -1000000000000000 1 call2": api.RunRange, "* 1000000001 1000000 call2": api.RunRange, "* 4294967296 4294967296 call2": api.RunRange,
	} {
		stops(t, "out 1 call1 pop "+s+" pop out 2 call1 pop ret", how, "1")
	}
	does(t, "out out 5 call1 call1 pop ret", "5", "5")
}

func TestK2Out(t *testing.T) {
	put := []api.Ins{prim("out"), num(7), with(api.ICall, 1), pop}
	want := slices.Repeat([]string{"7"}, api.MaxOut)
	ends(t, alone(times(api.MaxOut, put...)...), 10000, api.RunDone, want...)
	ends(t, alone(times(api.MaxOut+1, put...)...), 10000, api.RunMuch, want...)
	// All starts' are counted.
	im := alone(times(api.MaxOut, put...)...)
	im.Protos = append(im.Protos, proto(0, append(put, ret)...))
	im.Starts = []int{0, 1}
	ends(t, im, 10000, api.RunMuch, want...)
	long := func(n int) api.Image {
		return alone(prim("out"), num(1), with(api.ICall, 1), pop, prim("out"), quote(list(slices.Repeat([]api.Datum{sym("a")}, n)...)), with(api.ICall, 1), pop)
	}
	ends(t, long(api.MaxShown-1), 100, api.RunDone, "1", "("+strings.Repeat("a ", api.MaxShown-2)+"a)")
	ends(t, long(api.MaxShown), 100, api.RunMuch, "1")
}

// down is a procedure that calls itself, as often as it is told to, and does what is last then; and a body that calls it.
func down(n int, last string) string {
	words := len(strings.Fields(last))
	return fmt.Sprintf("fn1 def0 pop fn2 def1 pop get0 %d call1 pop ret | 1: = @0 1 call2 unless%d %s to%d get0 - @0 1 call2 call1 ret | 1: @0 ret", n, 6+words, last, 12+words)
}

func TestK2Calls(t *testing.T) {
	// So many calls go on: the body is none.
	does(t, down(api.MaxCalls, "out @0 call1"), "1")
	stops(t, down(api.MaxCalls+1, "out @0 call1"), api.RunMuch)
	does(t, down(api.MaxCalls-1, "out get1 8 call1 call1"), "8")
	stops(t, down(api.MaxCalls, "out get1 8 call1 call1"), api.RunMuch)
	// Primitives are no procedures.
	does(t, down(api.MaxCalls, "out car cons @0 2 call2 call1 call1"), "1")
	// Type and number come ahead.
	stops(t, down(api.MaxCalls, "5 call0"), api.RunType)
	stops(t, down(api.MaxCalls, "get1 call0"), api.RunArgs)
	stops(t, down(api.MaxCalls, "get1 out 7 call1 call1"), api.RunMuch, "7")
	stops(t, down(100000, "1"), api.RunMuch)
	// Those that have answered do not go on.
	again := strings.Repeat("get0 200 call1 pop get1 get0 200 call1 call1 pop ", 5)
	does(t, strings.Replace(down(api.MaxCalls, "1"), "ret |", again+"ret |", 1))
	does(t, "fn1 def0 pop "+strings.Repeat("get0 call0 pop ", 1000)+"ret | 0: 1 ret")
	// The second start begins with none.
	im := body(down(api.MaxCalls, "1"))
	im.Protos = append(im.Protos, procedures("0: get0 200 call1 pop out 1 call1 pop ret | 0: get0 201 call1 pop ret")...)
	im.Starts = []int{0, 3, 4}
	ends(t, im, 100000, api.RunMuch, "1")
	// The step comes ahead.
	takes(t, body(down(api.MaxCalls+1, "1")), 9+api.MaxCalls*11)
}

// K2: whatever the end is, what was put out is told.
func TestK2Ends(t *testing.T) {
	for how, s := range map[int]string{
		api.RunDone: "1 pop", api.RunName: "get2 pop", api.RunType: "1 call0 pop", api.RunArgs: "car call0 pop", api.RunRange: "* 1000000000000000 2 call2 pop", api.RunMuch: "fn1 def0 pop get0 call0 pop",
	} {
		stops(t, "out 1 call1 pop out '(a) call1 pop "+s+" ret"+map[bool]string{true: " | 0: get0 call0 ret"}[how == api.RunMuch], how, "1", "(a)")
	}
	ends(t, body("out 1 call1 pop out '(a) call1 pop 1 pop ret"), 8, api.RunSteps, "1", "(a)")
}

// K2: texts that were expanded, compiled and linked.
func TestK2Forms(t *testing.T) {
	for _, x := range []struct {
		s    string
		how  int
		want string
	}{
		{"(out 5)", api.RunDone, "5"},
		{"(out '(a (b))) (out (cons 1 2))", api.RunDone, "(a (b)) (1 . 2)"},
		{"(out x)", api.RunName, ""},
		{"(define x 5) (set! x (+ x 1)) (out x)", api.RunDone, "6"},
		{"(define (f a) (if (< a 1) 0 (+ a (f (- a 1))))) (out (f 199)) (out (f 200))", api.RunMuch, "19900"},
		{"(define (f a) (lambda (b) (begin (set! a (+ a b)) a))) (define x (f 10)) (out (x 1)) (out (x 1))", api.RunDone, "11 12"},
		{"(let ((a 1) (b 2)) (let ((c a)) (set! a b) (set! b c)) (out (cons a b)))", api.RunDone, "(2 . 1)"},
		{"(define (f g) (g g)) (f f)", api.RunMuch, ""},
		{"(define (f a) (if (null? a) 0 (+ 1 (f (cdr a))))) (out (f '(a b c d)))", api.RunDone, "4"},
	} {
		res, err := machine.Run(built(t, x.s), api.MaxSteps)
		if err != api.OK || res.How != x.how || strings.Join(res.Out, " ") != x.want {
			t.Errorf("%s: %v, %v", x.s, res, err)
		}
	}
}
