package model_test

import (
	"fmt"
	"strings"
	"testing"

	"graftwood/api"
	"graftwood/expand"
)

func TestG3Args(t *testing.T) {
	two := " * + - < = cons eq? "
	for _, s := range expand.Prims() {
		for n := range 4 {
			how := api.RunArgs
			if n == 2 && strings.Contains(two, " "+s+" ") || n == 1 && !strings.Contains(two, " "+s+" ") {
				how = api.RunDone
			}
			arg := num(1)
			if s == "car" || s == "cdr" {
				arg = quote(list(sym("a")))
			}
			c := call(append([]api.Core{prim(s)}, times(n, arg)...)...)
			res, f := run(alone(c))
			if res.How != how || f.Err != api.OK {
				t.Errorf("%s of %d ends with %d", s, n, res.How)
			}
		}
	}
	// How many there are is told ahead of what they are.
	stops(t, "(+ 'a)", api.RunArgs)
	stops(t, "(car 1 2)", api.RunArgs)
}

func TestG3Numbers(t *testing.T) {
	does(t, "(out (+ 1 2)) (out (- 1 5)) (out (* -3 4)) (out (+ -1 -2)) (out (- -1 -5)) (out (* -3 -4)) (out (* 0 5)) (out (* 5 0))", "3", "-4", "-12", "-3", "4", "12", "0", "0")
	does(t, "(out (< 1 2)) (out (< 2 2)) (out (< 3 2)) (out (< -1 0)) (out (= 1 2)) (out (= 2 2)) (out (= -2 2))", "#t", "#f", "#f", "#t", "#f", "#t", "#f")
	for _, op := range []string{"+", "-", "*", "<", "="} {
		for _, odd := range []string{"#t", "'a", "'()", "'(1)", "car", "(lambda () 1)"} {
			stops(t, "("+op+" 1 "+odd+")", api.RunType)
			stops(t, "("+op+" "+odd+" 1)", api.RunType)
			stops(t, "("+op+" "+odd+" "+odd+")", api.RunType)
		}
	}
}

func TestG3Range(t *testing.T) {
	const most = api.MaxInt
	for _, l := range []struct {
		op   string
		a, b int64
		want string
	}{
		{"+", most, 0, "1000000000000000"}, {"+", most - 1, 1, "1000000000000000"}, {"+", most, 1, ""}, {"+", most, most, ""}, {"+", -most, -1, ""}, {"+", -most, most, "0"}, {"+", 1 - most, -1, "-1000000000000000"}, {"+", -most, -most, ""},
		{"-", -most, 0, "-1000000000000000"}, {"-", -most, 1, ""}, {"-", most, -1, ""}, {"-", most, most, "0"}, {"-", -most, most, ""}, {"-", 0, most, "-1000000000000000"},
		{"*", most, 1, "1000000000000000"}, {"*", most, -1, "-1000000000000000"}, {"*", -most, -1, "1000000000000000"}, {"*", most, 2, ""}, {"*", most, most, ""}, {"*", -most, most, ""}, {"*", most, 0, "0"}, {"*", 0, -most, "0"},
		{"*", 31622776, 31622776, "999999961946176"}, {"*", 31622777, 31622777, ""}, {"*", -31622777, 31622777, ""}, {"*", 1000000, 1000000000, "1000000000000000"}, {"*", 1000001, 1000000000, ""}, {"*", -1000001, 1000000000, ""},
		{"*", 3, 333333333333333, "999999999999999"}, {"*", 3, 333333333333334, ""}, {"*", -3, 333333333333334, ""},
		// These go round to 0, to 2^32 and to -2^63 in 64 bits.
		{"*", 1 << 32, 1 << 32, ""}, {"*", 1<<32 + 1, 1 << 32, ""}, {"*", 1 << 31, 1 << 32, ""}, {"*", -1 << 31, 1 << 32, ""}, {"*", 1 << 40, 1 << 40, ""},
	} {
		c := alone(out(call(prim(l.op), num(l.a), num(l.b))))
		if l.want == "" {
			ends(t, c, 10, api.RunRange)
		} else {
			ends(t, c, 10, api.RunDone, l.want)
		}
	}
	does(t, fmt.Sprintf("(out (< %d %d)) (out (= %d %d)) (out (= %d -%d))", most-1, most, most, most, most, most), "#t", "#t", "#f")
}

func TestG3Pairs(t *testing.T) {
	does(t, "(define x (cons 1 'a)) (out x) (out (car x)) (out (cdr x)) (out (cons x x))", "(1 . a)", "1", "a", "((1 . a) 1 . a)")
	does(t, "(out (car '(1 2 3))) (out (cdr '(1 2 3))) (out (cdr '(1))) (out (car '((a) b))) (out (car (cdr (cdr '(1 2 (3))))))", "1", "(2 3)", "()", "(a)", "(3)")
	for _, odd := range []string{"1", "#f", "'a", "'()", "car", "(lambda () 1)", "(cdr '(1))"} {
		stops(t, "(car "+odd+")", api.RunType)
		stops(t, "(cdr "+odd+")", api.RunType)
	}
	does(t, "(out (eq? (cons 1 2) (cons 1 2))) (define x (cons 1 2)) (define y (cons x x)) (out (eq? (car y) (cdr y))) (out (eq? x (car y)))", "#f", "#t", "#t")
}

func TestG3Whether(t *testing.T) {
	all := []string{"1", "0", "#t", "#f", "'a", "'()", "'(a)", "(cons 1 2)", "car", "null?", "(lambda () 1)"}
	for _, s := range all {
		does(t, "(out (null? "+s+")) (out (pair? "+s+")) (out (not "+s+"))", truth(s == "'()"), truth(s == "'(a)" || s == "(cons 1 2)"), truth(s == "#f"))
	}
}

func truth(is bool) string {
	if is {
		return "#t"
	}
	return "#f"
}

func TestG3Eq(t *testing.T) {
	all := []string{"1", "0", "-1", "300", "1000000000000000", "#t", "#f", "'a", "'b", "'car", "'t", "'()", "'(a)", "(cons 1 2)", "car", "cdr", "(lambda () 1)"}
	for i, a := range all {
		for j, b := range all {
			same := i == j && a != "'(a)" && a != "(cons 1 2)" && a != "(lambda () 1)"
			does(t, "(out (eq? "+a+" "+b+"))", truth(same))
		}
		does(t, "(define x "+a+") (define y x) (out (eq? x y)) (let ((z x)) (out (eq? y z)))", "#t", "#t")
	}
	does(t, "(define x car) (out (eq? x car)) (out (eq? (+ 100 200) 300)) (out (eq? (car '(a)) 'a)) (out (eq? (not 1) #f)) (out (eq? '5 5)) (out (eq? '#t #t))", "#t", "#t", "#t", "#t", "#t", "#t")
	does(t, "(define (f) (lambda () 1)) (out (eq? (f) (f))) (define g (f)) (out (eq? g g)) (out (eq? f f))", "#f", "#t", "#t")
}

func TestG3Texts(t *testing.T) {
	does(t, "(out car) (out out) (out (lambda (a) a)) (define (f) 1) (out f) (out (cons car f)) (out (cons f '()))", "#p", "#p", "#p", "#p", "(#p . #p)", "(#p)")
	does(t, "(out (cons 1 (cons 2 3))) (out (cons 1 (cons 2 '()))) (out (cons (cons 1 2) 3)) (out (cons (cons 1 '()) (cons '() '()))) (out (cons '() '()))", "(1 2 . 3)", "(1 2)", "((1 . 2) . 3)", "((1) ())", "(())")
	does(t, "(out (cons 1 '(2 3))) (out (cons '(1) 2)) (out (cons #t #f)) (out '(a . b))", "(1 2 3)", "((1) . 2)", "(#t . #f)", "(a . b)")
	// The last one is a name that is a dot: a symbol as any other.
	does(t, "(out (null? (cdr (cdr (cdr '(a . b))))))", "#t")
}

func TestG3OutValue(t *testing.T) {
	does(t, "(out (out (out 5))) (out (car (out '(1 2))))", "5", "5", "5", "(1 2)", "1")
	does(t, "(define x '(a)) (out (eq? x (out x)))", "(a)", "#t")
	does(t, "(define f out) (f 1) ((lambda (g) (g 2)) out)", "1", "2")
}

func TestG3MaxOut(t *testing.T) {
	want := make([]string, api.MaxOut)
	for i := range want {
		want[i] = "7"
	}
	ends(t, alone(seq(times(api.MaxOut, out(num(7)))...)), 10000, api.RunDone, want...)
	ends(t, alone(seq(times(api.MaxOut+1, out(num(7)))...)), 10000, api.RunMuch, want...)
	ends(t, []api.Part{part(times(api.MaxBody, out(num(7)))...), part(out(num(7)))}, 10000, api.RunMuch, want...)
	// What else is wrong with the call comes ahead.
	ends(t, []api.Part{part(times(api.MaxBody, out(num(7)))...), part(call(prim("out")))}, 10000, api.RunArgs, want...)
}

// of has so many elements, and ends so.
func of(n int, end string) string {
	return fmt.Sprintf("(define (f n e) (if (= n 0) e (f (- n 1) (cons n e)))) (define x (f 150 (f %d %s))) ", n-150, end)
}

// quotedList is a list of so many.
func quotedList(n int) string {
	return "'(" + strings.Repeat("a ", n) + ")"
}

func TestG3MaxShown(t *testing.T) {
	shown := "(" + strings.TrimSpace(strings.Repeat("a ", api.MaxShown-1)) + ")"
	does(t, "(out "+quotedList(api.MaxShown-1)+")", shown)
	stops(t, "(out 1) (out "+quotedList(api.MaxShown)+") (out 2)", api.RunMuch, "1")
	does(t, "(out (car (out "+quotedList(api.MaxShown-1)+")))", shown, "a")
	// A second value behind a dot is a node; nothing behind the last one is not.
	for _, l := range []struct {
		n   int
		end string
		how int
	}{
		{api.MaxShown - 1, "'()", api.RunDone}, {api.MaxShown, "'()", api.RunMuch},
		{api.MaxShown - 2, "5", api.RunDone}, {api.MaxShown - 1, "5", api.RunMuch},
		{api.MaxShown - 3, "'(a b)", api.RunDone}, {api.MaxShown - 2, "'(a b)", api.RunMuch},
		{api.MaxShown - 3, "(cons '() 1)", api.RunDone}, {api.MaxShown - 2, "(cons '() 1)", api.RunMuch},
	} {
		res, f := run(alone(cores(t, of(l.n, l.end)+"(out x)")...))
		if f.Err != api.OK || res.How != l.how {
			t.Errorf("%d and %s: %v %v", l.n, l.end, res, f)
		}
	}
	// A pair in a first value is one node, and so is nothing.
	for n, how := range map[int]int{api.MaxShown - 2: api.RunDone, api.MaxShown - 1: api.RunDone, api.MaxShown: api.RunMuch, api.MaxShown + 1: api.RunMuch, 5000: api.RunMuch} {
		nest := fmt.Sprintf("(define (f n e) (if (= n 0) e (f (- n 1) (cons e '())))) (define (g n e) (if (< n 150) (f n e) (g (- n 100) (f 100 e)))) (define x (g %d '())) (out x)", n)
		res, f := run(alone(cores(t, nest)...))
		if f.Err != api.OK || res.How != how || how == api.RunDone && res.Out[0] != strings.Repeat("(", n+1)+strings.Repeat(")", n+1) {
			t.Errorf("%d nested: %v %v", n, res, f)
		}
	}
	does(t, "(out (cons "+quotedList(148)+" "+quotedList(150)+"))", "(("+strings.TrimSpace(strings.Repeat("a ", 148))+")"+strings.Repeat(" a", 150)+")")
	stops(t, "(out (cons "+quotedList(149)+" "+quotedList(150)+"))", api.RunMuch)
}

// What stands in several places is told, and counted, in each of them.
func TestG3Shared(t *testing.T) {
	double := "(define (f n e) (if (= n 0) e (f (- n 1) (cons e e)))) "
	does(t, double+"(out (f 3 1))", "(((1 . 1) 1 . 1) (1 . 1) 1 . 1)")
	does(t, double+"(f 190 1) (out (eq? (f 1 car) car))", "#f")
	stops(t, double+"(out (f 190 1))", api.RunMuch)
	stops(t, double+"(out (f 190 '()))", api.RunMuch)
	// Doubled n times, it has 2^n nodes: the half of its pairs that stand along second values are none.
	does(t, double+"(out (f 7 '()))", nested(7))
	does(t, double+"(out (f 8 '()))", nested(8))
	stops(t, double+"(out (f 9 '()))", api.RunMuch)
}

// nested is the text of what doubles nothing so often.
func nested(n int) string {
	s := "()"
	for range n {
		rest := strings.TrimSuffix(strings.TrimPrefix(s, "("), ")")
		if rest != "" {
			rest = " " + rest
		}
		s = "(" + s + rest + ")"
	}
	return s
}
