package model_test

import (
	"fmt"
	"reflect"
	"strings"
	"testing"

	"graftwood/api"
	"graftwood/model"
)

func TestG2Range(t *testing.T) {
	for _, n := range []int{-1, api.MaxSteps + 1, 1<<63 - 1, -1 << 63} {
		for _, l := range [][]api.Part{nil, alone(), alone(out(num(1)))} {
			res, f := model.Run(l, n)
			if f != (api.Fault{Err: api.ErrRange}) || !reflect.DeepEqual(res, api.Result{}) {
				t.Errorf("with %d steps: %v %v", n, res, f)
			}
		}
		// What is wrong with the parts is told ahead.
		_, f := model.Run([]api.Part{part(), part(prim("zz"))}, n)
		if f != (api.Fault{Err: api.ErrName, At: 1}) {
			t.Errorf("with %d steps: %v", n, f)
		}
	}
	ends(t, nil, 0, api.RunDone)
	ends(t, nil, api.MaxSteps, api.RunDone)
	ends(t, make([]api.Part, api.MaxParts), 0, api.RunDone)
	ends(t, alone(out(num(1))), api.MaxSteps, api.RunDone, "1")
}

func TestG2InOrder(t *testing.T) {
	l := []api.Part{part(out(num(1)), out(num(2))), part(), part(out(num(3))), part(out(num(4)), out(num(5)))}
	ends(t, l, 100, api.RunDone, "1", "2", "3", "4", "5")
	// The same things are defined in all of them, whatever they are called.
	l = []api.Part{part(define("x", num(1))), {Name: "n", Body: []api.Core{out(global("x")), setGlobal("x", num(2))}}, part(out(global("x")))}
	ends(t, l, 100, api.RunDone, "1", "2")
	// Nothing is run behind an end.
	l = []api.Part{part(out(num(1)), call(num(5)), out(num(2))), part(out(num(3)))}
	ends(t, l, 100, api.RunType, "1")
}

func TestG2Steps(t *testing.T) {
	takes(t, alone(), 0)
	takes(t, alone(num(1)), 1)
	takes(t, alone(num(1), boolean(0), quote(list(sym("a"), sym("b"))), prim("car")), 4)
	takes(t, []api.Part{part(num(1)), part(num(1), num(1))}, 3)
	takes(t, alone(out(num(5))), 3)
	takes(t, alone(lambda(2, wide(50))), 1)
	takes(t, alone(call(lambda(2, seq(local(0), local(1))), num(1), num(2))), 7)
	takes(t, alone(choose(boolean(1), num(1), wide(20))), 3)
	takes(t, alone(choose(boolean(0), wide(20), num(1))), 3)
	takes(t, alone(define("x", num(1)), setGlobal("x", global("x"))), 4)
	takes(t, alone(call(lambda(1, setLocal(0, num(1))), num(2))), 5)
	takes(t, alone(seq(seq(seq(num(1), num(2))))), 5)
	takes(t, alone(cores(t, "(define (f a) (if (< a 1) 0 (f (- a 1)))) (f 3)")...), 2+3+3*12+7)
}

// A node is a step ahead of its kids: what was put out stays.
func TestG2StepsOut(t *testing.T) {
	l := alone(out(num(1)), seq(out(num(2)), out(out(num(3)))))
	for n, want := range []int{0, 0, 0, 1, 1, 1, 1, 2, 2, 2, 2, 2} {
		how := api.RunSteps
		ends(t, l, n, how, []string{"1", "2"}[:want]...)
	}
	ends(t, l, 12, api.RunDone, "1", "2", "3", "3")
	// The step is told ahead of what is wrong there.
	ends(t, alone(global("x")), 0, api.RunSteps)
	ends(t, alone(global("x")), 1, api.RunName)
	ends(t, alone(call(num(5))), 1, api.RunSteps)
	ends(t, alone(call(num(5))), 2, api.RunType)
	// A body's node is come to behind the call.
	ends(t, alone(call(lambda(1, num(1)))), 2, api.RunArgs)
	ends(t, alone(call(lambda(0, num(1)))), 2, api.RunSteps)
}

func TestG2Values(t *testing.T) {
	does(t, "(out 5) (out -5) (out 0) (out #t) (out #f)", "5", "-5", "0", "#t", "#f")
	ends(t, alone(out(num(api.MaxInt)), out(num(-api.MaxInt))), 10, api.RunDone, "1000000000000000", "-1000000000000000")
	does(t, "(out 'a) (out '()) (out '5) (out '#f) (out '(a 1 #t (b (c)) ()))", "a", "()", "5", "#f", "(a 1 #t (b (c)) ())")
	does(t, "(out ''a)", "(quote a)")
	does(t, "(out (begin 1 2 3))", "3")
}

// What is quoted is new pairs each time; they stay the same ones, while they are kept.
func TestG2QuoteNew(t *testing.T) {
	does(t, "(define (f) '(a (b) c)) (define x (f)) (define y (f)) (out (eq? x y)) (out (eq? x x)) (out (eq? (cdr x) (cdr y))) (out (eq? (car (cdr x)) (car (cdr y))))", "#f", "#t", "#f", "#f")
	does(t, "(define x '(a (b) c)) (out (eq? (cdr x) (cdr x))) (out (eq? (car (cdr x)) (car (cdr x)))) (define y (cdr x)) (out x) (out (eq? y (cdr x))) (out (eq? (car x) 'a))", "#t", "#t", "(a (b) c)", "#t", "#t")
	does(t, "(out (eq? '() '())) (out (eq? (cdr '(a)) '())) (out (eq? (car '(())) '()))", "#t", "#t", "#t")
	does(t, "(define x '((a) (a))) (out (eq? (car x) (car (cdr x))))", "#f")
}

func TestG2If(t *testing.T) {
	does(t, "(out (if #t 1 2)) (out (if #f 1 2)) (out (if 0 1 2)) (out (if '() 1 2)) (out (if 'a 1 2)) (out (if car 1 2)) (out (if (lambda () 1) 1 2)) (out (if '(1) 1 2))", "1", "2", "1", "1", "1", "1", "1", "1")
	does(t, "(if (out #f) (out 1) (out 2)) (if (out 5) (out 3) (out 4))", "#f", "2", "5", "3")
	does(t, "(if #t 1 x) (if #f (5) 1)")
}

func TestG2Locals(t *testing.T) {
	does(t, "(let ((a 1) (b 2) (f 3)) (out a) (out b) (out f))", "1", "2", "3")
	ends(t, alone(call(lambda(3, seq(out(local(0)), out(local(1)), out(local(2)))), num(1), num(2), num(3))), 100, api.RunDone, "3", "2", "1")
	does(t, "(((lambda (a b) (lambda (c d) (out (cons (cons a b) (cons c d))))) 1 2) 3 4)", "((1 . 2) 3 . 4)")
	does(t, "((((lambda (a) (lambda () (lambda (b) (out (cons a b))))) 1)) 2)", "(1 . 2)")
	does(t, "((lambda () ((lambda (a) ((lambda () (out a)))) 7)))", "7")
}

// A procedure has the parameters that were around where it was made, not those where it is called.
func TestG2Closures(t *testing.T) {
	does(t, "(define (f a) (lambda (b) (set! a (+ a b)) a)) (define x (f 10)) (define y (f 20)) (out (x 1)) (out (y 1)) (out (x 1)) (out (y 5))", "11", "21", "12", "26")
	does(t, "(define (f a) (cons (lambda () a) (lambda (b) (set! a b)))) (define x (f 1)) (out ((car x))) ((cdr x) 5) (out ((car x))) (out ((car (f 3))))", "1", "5", "3")
	does(t, "(define f (let ((a 1)) (lambda () a))) (let ((a 2)) (out (f)))", "1")
	// Each call has new parameters.
	does(t, "(define (f a) (if (= a 0) '() (begin (f (- a 1)) (out a) (set! a 9) (out a)))) (f 2)", "1", "9", "2", "9")
	does(t, "(define x '()) (define (f a) (set! x (cons (lambda () a) x))) (f 1) (f 2) (out ((car x))) (out ((car (cdr x))))", "2", "1")
	// What a call was given is its own.
	does(t, "(let ((a 1)) (let ((b a)) (set! b 2) (out a) (set! a 3) (out b)))", "1", "2")
}

func TestG2Globals(t *testing.T) {
	stops(t, "(out 1) (out x)", api.RunName, "1")
	does(t, "(define x 5) (out x) (define x 6) (out x) (set! x 7) (out x) (define x 8) (out x)", "5", "6", "7", "8")
	does(t, "(define (f) x) (define x 1) (out (f)) (set! x 2) (out (f))", "1", "2")
	ends(t, alone(out(define("x", num(5))), out(global("x"))), 10, api.RunDone, "5", "5")
	does(t, "(define x #f) (out x) (define y '()) (out y)", "#f", "()")
	// Of another library, or by another name, it is another one.
	other := api.Core{Kind: api.CGlobal, Lib: "n", Own: "x"}
	ends(t, alone(define("x", num(1)), other), 10, api.RunName)
	ends(t, alone(define("x", num(1)), global("y")), 10, api.RunName)
	odd := api.Core{Kind: api.CDefine, Kids: times(1, num(4))}
	ends(t, alone(odd, out(api.Core{Kind: api.CGlobal}), global("")), 10, api.RunName, "4")
	ends(t, alone(api.Core{Kind: api.CDefine, Lib: "a b", Own: "c", Kids: times(1, num(4))}, api.Core{Kind: api.CGlobal, Lib: "a", Own: "b c"}), 10, api.RunName)
	// The base's words are not changed by what is called the same.
	ends(t, alone(api.Core{Kind: api.CDefine, Lib: "base", Own: "out", Kids: times(1, num(4))}, out(num(1))), 10, api.RunDone, "1")
	// A definition stands wherever an expression does.
	ends(t, alone(call(lambda(1, define("x", local(0))), num(3)), out(global("x"))), 20, api.RunDone, "3")
	ends(t, alone(choose(boolean(0), define("x", num(1)), num(2)), global("x")), 20, api.RunName)
}

func TestG2Set(t *testing.T) {
	stops(t, "(set! x 5)", api.RunName)
	stops(t, "(set! x (out 5))", api.RunName, "5")
	stops(t, "(set! x (car 5))", api.RunType)
	does(t, "(define x 1) (out (set! x 2)) (out x)", "2", "2")
	does(t, "(let ((a 1)) (out (set! a 2)) (out a) (out (set! a (+ a 1))) (out a))", "2", "2", "3", "3")
	// The kid may define it.
	ends(t, alone(setGlobal("x", define("x", num(1))), setGlobal("x", seq(define("x", num(5)), num(2))), out(global("x"))), 20, api.RunDone, "2")
	// The kid is ahead.
	ends(t, alone(define("x", num(1)), define("x", seq(out(global("x")), num(2))), setGlobal("x", seq(out(global("x")), num(3))), out(global("x"))), 40, api.RunDone, "1", "2", "3")
	ends(t, alone(call(lambda(2, seq(setLocal(1, seq(out(local(1)), num(5))), out(local(1)), out(local(0)))), num(1), num(2))), 40, api.RunDone, "1", "5", "2")
	// Nothing is set, if the kid ends the run: and nothing is kept from run to run.
	ends(t, alone(define("x", call(num(1)))), 20, api.RunType)
	ends(t, alone(global("x")), 20, api.RunName)
}

func TestG2Call(t *testing.T) {
	for _, s := range []string{"5", "#f", "'a", "'()", "'(car)", "(cons 1 2)"} {
		stops(t, "(define x "+s+") (x) ", api.RunType)
		stops(t, "(define x "+s+") (x 1 2 3) ", api.RunType)
	}
	// All kids, from the first one on, ahead of the call.
	stops(t, "(5 (out 1) (out 2))", api.RunType, "1", "2")
	stops(t, "(x (out 1))", api.RunName)
	stops(t, "((begin (out 1) car) (out 2) (out 3))", api.RunArgs, "1", "2", "3")
	stops(t, "(car (out 2) x)", api.RunName, "2")
	stops(t, "((lambda (a) (out a)) (out 1) (out 2))", api.RunArgs, "1", "2")
	does(t, "((begin (out 1) out) (begin (out 2) 3))", "1", "2", "3")
	does(t, "(define (f) (set! g (lambda () 2)) 5) (define g (lambda (a) 1)) (out (g (f)))", "1")
	for params := range 4 {
		for args := range 4 {
			how := api.RunArgs
			if params == args {
				how = api.RunDone
			}
			ends(t, alone(call(append([]api.Core{lambda(params, num(1))}, times(args, num(2))...)...)), 20, how)
		}
	}
	does(t, "(out ((lambda (a b) a) 1 2)) (out ((lambda () 4)))", "1", "4")
}

// down is a procedure that calls itself so often, and does what is last then.
func down(last string) string {
	return "(define (f a) (if (= a 1) " + last + " (f (- a 1)))) (define (g) 1) (define (h a) a)"
}

func TestG2Calls(t *testing.T) {
	does(t, down("(out a)")+fmt.Sprintf("(f %d)", api.MaxCalls), "1")
	stops(t, down("(out a)")+fmt.Sprintf("(f %d)", api.MaxCalls+1), api.RunMuch)
	does(t, down("(g)")+fmt.Sprintf("(f %d)", api.MaxCalls-1))
	stops(t, down("(g)")+fmt.Sprintf("(f %d)", api.MaxCalls), api.RunMuch)
	stops(t, down("(let () 1)")+fmt.Sprintf("(f %d)", api.MaxCalls), api.RunMuch)
	// Primitives are no procedures.
	does(t, down("(out (car (cons a 2)))")+fmt.Sprintf("(f %d)", api.MaxCalls), "1")
	// Type and number come ahead.
	stops(t, down("(5)")+fmt.Sprintf("(f %d)", api.MaxCalls), api.RunType)
	stops(t, down("(g 1)")+fmt.Sprintf("(f %d)", api.MaxCalls), api.RunArgs)
	stops(t, down("(h)")+fmt.Sprintf("(f %d)", api.MaxCalls), api.RunArgs)
	stops(t, down("(h (out 7))")+fmt.Sprintf("(f %d)", api.MaxCalls), api.RunMuch, "7")
	// The steps of the body do not come ahead.
	stops(t, down("(g)")+fmt.Sprintf("(f %d)", 100000), api.RunMuch)
}

// Those that have answered do not go on; nor do those that make the arguments.
func TestG2CallsGoOn(t *testing.T) {
	does(t, down("1")+strings.Repeat("(begin (f 200) (f 200) (h (f 199)) (h (h (h (h (f 200))))))", 3))
	does(t, down("1")+"(h (f 200)) (out (+ (f 200) (f 200)))", "2")
	does(t, "(define (g a) a) (define (f a) (if (= a 0) (out 'e) (begin (g (g (g a))) (f (- a 1))))) (f 198)", "e")
	stops(t, "(define (g a) a) (define (f a) (if (= a 0) (out 'e) (begin (g (g (g a))) (f (- a 1))))) (f 200)", api.RunMuch)
	ends(t, alone(seq(times(999, call(lambda(0, num(1))))...)), api.MaxSteps, api.RunDone)
}
