package object_test

import (
	"slices"
	"strings"
	"testing"

	"graftwood/api"
	"graftwood/expand"
	"graftwood/object"
)

// judged: that is what is wrong with the unit m of procedures (OK, if nothing is).
func judged(t *testing.T, s string, want api.Errno) {
	t.Helper()
	judgedUnit(t, unit(procedures(s)...), want)
}

func judgedUnit(t *testing.T, u api.Unit, want api.Errno) {
	t.Helper()
	if want == api.OK {
		right(t, u)
	} else {
		wrong(t, u, want)
	}
}

// names is texts, and whether each is plain.
func names() map[string]bool {
	out := map[string]bool{
		"": true, " ": true, "a b": true, "(A)\"'`~": true, "a\n": false, "\x00": false, "\u00e9": false, "\xff": false,
		strings.Repeat("x", api.MaxLibName-1): true, strings.Repeat("~", api.MaxLibName): true,
		strings.Repeat("x", api.MaxLibName+1): false, strings.Repeat("x", 1<<20): false,
		strings.Repeat(" ", api.MaxLibName-1) + "\t": false,
	}
	for c := range 256 {
		out["a"+string([]byte{byte(c)})+"b"] = c >= ' ' && c <= '~'
	}
	return out
}

func TestI1Name(t *testing.T) {
	for s, is := range names() {
		u := api.Unit{Name: s, Protos: procedures("0: ret")}
		if is {
			right(t, u)
			wrong(t, api.Unit{Name: s}, api.ErrMany)
		} else {
			// Ahead of what is wrong with its procedures.
			wrong(t, u, api.ErrName)
			wrong(t, api.Unit{Name: s}, api.ErrName)
			wrong(t, api.Unit{Name: s, Protos: make([]api.Proto, api.MaxProtos+1)}, api.ErrName)
		}
	}
}

// many is a unit of so many procedures.
func many(n int) api.Unit {
	u := unit(proto(0))
	for i := 1; i < n; i++ {
		u.Protos[0].Code = append(u.Protos[0].Code, with(api.IClosure, i), pop)
		u.Protos = append(u.Protos, proto(1, with(api.ILocal, 0), ret))
	}
	u.Protos[0].Code = append(u.Protos[0].Code, ret)
	return u
}

func TestI1Procedures(t *testing.T) {
	for _, none := range [][]api.Proto{nil, {}} {
		wrong(t, unit(none...), api.ErrMany)
	}
	for _, n := range []int{1, 2, api.MaxProtos - 1, api.MaxProtos} {
		right(t, many(n))
	}
	wrong(t, many(api.MaxProtos+1), api.ErrMany)
	wrong(t, unit(make([]api.Proto, 100000)...), api.ErrMany)
	// Ahead of what is wrong with one.
	u := many(api.MaxProtos + 1)
	u.Protos[0].Args = -1
	wrong(t, u, api.ErrMany)
	u.Protos = u.Protos[:api.MaxProtos]
	wrong(t, u, api.ErrRange)
}

// I1: the first one is a body, and no other one.
func TestI1Body(t *testing.T) {
	judged(t, "0: ret", api.OK)
	judged(t, "1: ret", api.ErrRange)
	judged(t, "0: 1 ret", api.ErrFit)
	judged(t, "0: fn1 pop ret | 0: 1 ret", api.OK)
	judged(t, "0: fn1 pop ret | 0: ret", api.ErrFit)
	judged(t, "0: ret | 0: ret", api.ErrFit)
	judged(t, "0: ret | 0: 1 ret", api.ErrFit)
}

// filled is so many instructions, with last at their end, and else ones that change nothing.
func filled(n int, last ...api.Ins) []api.Ins {
	n -= len(last)
	out := times(n%2, with(api.IJump, 1))
	return append(append(out, times(n/2, num(1), pop)...), last...)
}

func TestI2Length(t *testing.T) {
	inner := func(l ...api.Ins) api.Unit { return unit(proto(0, with(api.IClosure, 1), pop, ret), proto(0, l...)) }
	for _, none := range [][]api.Ins{nil, {}} {
		wrong(t, alone(none...), api.ErrMany)
		wrong(t, inner(none...), api.ErrMany)
	}
	right(t, alone(ret))
	for _, n := range []int{2, 3, 100, api.MaxCode - 1, api.MaxCode} {
		right(t, alone(filled(n, ret)...))
		right(t, inner(filled(n, num(1), ret)...))
	}
	for _, n := range []int{api.MaxCode + 1, api.MaxCode + 2, 100000} {
		wrong(t, alone(filled(n, ret)...), api.ErrMany)
		wrong(t, inner(filled(n, num(1), ret)...), api.ErrMany)
	}
}

func TestI2Args(t *testing.T) {
	for _, n := range []int{-1, 0, 1, api.MaxNodes - 1, api.MaxNodes, api.MaxNodes + 1, 1<<63 - 1, -1 << 63} {
		body, other := api.ErrRange, api.OK
		if n == 0 {
			body = api.OK
		}
		if n < 0 || n > api.MaxNodes {
			other = api.ErrRange
		}
		judgedUnit(t, unit(proto(n, ret)), body)
		judgedUnit(t, unit(proto(0, with(api.IClosure, 1), pop, ret), proto(n, num(1), ret)), other)
	}
}

// I2: how large procedures are is told procedure by procedure, then what bodies take, and then all else.
func TestI2SizesFirst(t *testing.T) {
	judged(t, "-1: ret | 0:", api.ErrRange)
	judged(t, "0: ret | 0: | -1: ret", api.ErrMany)
	judged(t, "-1: | 0: ret", api.ErrMany)
	judged(t, "1: ret | 0:", api.ErrMany)
	judged(t, "1: zz | 0: zz", api.ErrRange)
	judged(t, "0: zz | 2001: ret", api.ErrRange)
	judged(t, "0: zz | 0:", api.ErrMany)
	judged(t, "0: zz | 0: ret", api.ErrName)
}

// I2: one procedure behind the other: is it made, its instructions, its stack.
func TestI2InOrder(t *testing.T) {
	judged(t, "0: fn1 pop | 0: #7 ret", api.ErrFit)
	judged(t, "0: fn1 zz | 0: #7 ret", api.ErrName)
	judged(t, "0: fn1 pop ret | 0: #7 zz", api.ErrRange)
	judged(t, "0: fn1 pop ret | 0: zz #7", api.ErrName)
	judged(t, "0: fn1 pop ret | 0: pop zz", api.ErrName)
	judged(t, "0: fn1 pop ret | 0: pop 1 ret | 0: zz", api.ErrFit)
	judged(t, "0: ret | 0: #7 zz", api.ErrFit)
	judged(t, "0: fn1 pop ret | 0: #7 ret | 0: 1 ret", api.ErrRange)
	judged(t, "0: fn2 pop ret | 0: #7 ret | 0: zz", api.ErrFit)
}

// I2: each procedure but the body is made just once, by one ahead.
func TestI2Closures(t *testing.T) {
	judged(t, "0: fn1 pop fn2 pop ret | 0: 1 ret | 0: 2 ret", api.OK)
	judged(t, "0: fn2 pop fn1 pop ret | 0: 1 ret | 0: 2 ret", api.OK)
	judged(t, "0: fn1 pop ret | 0: fn2 ret | 0: fn3 ret | 0: 2 ret", api.OK)
	judged(t, "0: fn1 pop fn3 pop ret | 0: fn2 ret | 0: 1 ret | 0: 2 ret", api.OK)
	judged(t, "0: fn1 pop fn2 pop ret | 0: fn3 ret | 0: 1 ret | 0: 2 ret", api.OK)
	judged(t, "0: fn1 pop ret", api.ErrRange)
	judged(t, "0: fn0 pop ret", api.ErrRange)
	judged(t, "0: fn-1 pop ret", api.ErrRange)
	judged(t, "0: fn2 pop ret | 0: 1 ret", api.ErrRange)
	judged(t, "0: fn9223372036854775807 pop ret | 0: 1 ret", api.ErrRange)
	judged(t, "0: fn1 pop ret | 0: fn1 ret", api.ErrRange)
	judged(t, "0: fn1 pop ret | 0: fn0 ret", api.ErrRange)
	judged(t, "0: fn1 pop fn2 pop ret | 0: 1 ret | 0: fn1 ret", api.ErrRange)
	judged(t, "0: fn1 pop fn1 pop ret | 0: 1 ret", api.ErrFit)
	judged(t, "0: fn1 pop fn2 pop ret | 0: fn2 ret | 0: 1 ret", api.ErrFit)
	judged(t, "0: fn1 pop fn2 pop ret | 0: fn3 ret | 0: fn3 ret | 0: 1 ret", api.ErrFit)
	judged(t, "0: fn1 pop ret | 0: 1 ret | 0: 1 ret", api.ErrFit)
	// Where none goes, what is made is made, too: what is wrong is told instruction by instruction.
	judged(t, "0: ret fn1 pop ret | 0: 1 ret", api.ErrFit)
	judged(t, "0: ret fn1 fn7 | 0: 1 ret", api.ErrRange)
}

func TestI2Kinds(t *testing.T) {
	for _, op := range []int{0, 16, 17, -1, 1 << 40, 1<<63 - 1, -1 << 63} {
		wrong(t, valued(api.Ins{Op: op}), api.ErrKind)
		wrong(t, valued(api.Ins{Op: op, A: -1, N: 1 << 60, Lib: "\n"}), api.ErrKind)
		wrong(t, valued(prim("zz"), api.Ins{Op: op}), api.ErrName)
	}
}

func TestI2Numbers(t *testing.T) {
	for _, n := range []int64{0, 1, -1, api.MaxInt, -api.MaxInt} {
		right(t, valued(num(n)))
	}
	for _, n := range []int64{api.MaxInt + 1, -api.MaxInt - 1, 1<<63 - 1, -1 << 63} {
		wrong(t, valued(num(n)), api.ErrRange)
	}
	right(t, valued(boolean(0)))
	right(t, valued(boolean(1)))
	for _, n := range []int64{2, -1, 1<<63 - 1, -1 << 63} {
		wrong(t, valued(boolean(n)), api.ErrRange)
	}
}

// deep is a list in others, so many in all.
func deep(n int) api.Datum {
	d := list()
	for range n - 1 {
		d = list(d)
	}
	return d
}

func TestI2Quote(t *testing.T) {
	full := list(slices.Repeat([]api.Datum{sym("a")}, api.MaxNodes-1)...)
	for _, d := range []api.Datum{{Kind: api.DNum, N: api.MaxInt}, {Kind: api.DBool, N: 1}, sym("a"), list(), list(sym("a"), list(sym("b"))), full, deep(api.MaxDeep)} {
		right(t, valued(quote(d)))
		right(t, valued(quote(d), pop, quote(d)))
	}
	for _, l := range []struct {
		d    api.Datum
		want api.Errno
	}{
		{api.Datum{}, api.ErrKind}, {api.Datum{Kind: 5}, api.ErrKind},
		{api.Datum{Kind: api.DNum, N: api.MaxInt + 1}, api.ErrRange}, {api.Datum{Kind: api.DBool, N: 2}, api.ErrRange},
		{sym("A"), api.ErrName}, {sym(""), api.ErrName}, {sym("5"), api.ErrName}, {sym(strings.Repeat("a", api.MaxName+1)), api.ErrName},
		{api.Datum{Kind: api.DSym, Name: "a", Stamp: 1}, api.ErrFit}, {api.Datum{Kind: api.DSym, Name: "a", Lib: 1}, api.ErrFit},
		{list(sym("a"), list(api.Datum{})), api.ErrKind},
		{list(append(slices.Clip(full.Kids), sym("a"))...), api.ErrMuch}, {deep(api.MaxDeep + 1), api.ErrMuch},
	} {
		wrong(t, valued(quote(l.d)), l.want)
		wrong(t, valued(num(1), pop, quote(l.d), api.Ins{}), l.want)
	}
}

func TestI2Locals(t *testing.T) {
	for _, one := range []string{"@", "1 set@"} {
		judged(t, "0: "+one+"0 pop ret", api.ErrRange)
		for a, want := range map[string]api.Errno{"-1": api.ErrRange, "0": api.OK, "1": api.OK, "2": api.ErrRange, "9223372036854775807": api.ErrRange, "-9223372036854775808": api.ErrRange} {
			judged(t, "0: fn1 pop ret | 2: "+one+a+" ret", want)
			// None more by one that takes nothing, and where the body stands none are.
			judged(t, "0: fn1 pop ret | 2: fn2 ret | 0: "+one+a+" ret", want)
			judged(t, "0: fn1 pop fn2 pop ret | 2: 1 ret | 0: "+one+"0 ret", api.ErrRange)
			// Those of one that is made beside it are not around.
			judged(t, "0: fn1 pop fn2 pop ret | 7: 1 ret | 2: "+one+a+" ret", want)
			judged(t, "0: fn2 pop fn1 pop ret | 7: fn3 ret | 2: "+one+a+" ret | 0: 1 ret", want)
		}
		judged(t, "0: fn1 pop ret | 2: fn2 pop fn3 ret | 3: "+one+"4 ret | 1: "+one+"2 ret", api.OK)
		judged(t, "0: fn1 pop ret | 2: fn2 pop fn3 ret | 3: "+one+"5 ret | 1: "+one+"2 ret", api.ErrRange)
		judged(t, "0: fn1 pop ret | 2: fn2 pop fn3 ret | 3: "+one+"4 ret | 1: "+one+"3 ret", api.ErrRange)
		judged(t, "0: fn1 pop ret | 2: fn3 pop fn2 ret | 3: fn4 ret | 1: "+one+"2 ret | 1: "+one+"5 ret", api.OK)
		judged(t, "0: fn1 pop ret | 2: fn3 pop fn2 ret | 3: fn4 ret | 1: "+one+"2 ret | 1: "+one+"6 ret", api.ErrRange)
		judged(t, "0: fn1 pop ret | 2000: fn2 ret | 2000: "+one+"3999 ret", api.OK)
		judged(t, "0: fn1 pop ret | 2000: fn2 ret | 2000: "+one+"4000 ret", api.ErrRange)
	}
}

func TestI2Globals(t *testing.T) {
	for _, op := range []int{api.IGlobal, api.ISetGlobal, api.IDefine} {
		first := num(1)
		if op == api.IGlobal {
			first = with(api.IJump, 1)
		}
		judge := func(lib, own string, is bool) {
			t.Helper()
			want := api.ErrName
			if is {
				want = api.OK
			}
			judgedUnit(t, valued(first, of(op, lib, own)), want)
		}
		for s, is := range names() {
			judge(s, "x", is)
			judge(s, "X", false)
		}
		for s, is := range map[string]bool{"x": true, "list->pair": true, "1+": true, "": false, "5": false, "-5": false, "X": false, "a b": false, "a\n": false, "\xff": false,
			strings.Repeat("a", api.MaxName): true, strings.Repeat("a", api.MaxName+1): false} {
			judge("m", s, is)
			judge("", s, is)
			judge("a b", s, is)
		}
	}
}

func TestI2Prims(t *testing.T) {
	for _, s := range expand.Prims() {
		right(t, valued(prim(s)))
	}
	for _, s := range append(expand.Specials(), "", "zz", "Car", "car ", " car", "cad", "base", "/", ">") {
		wrong(t, valued(prim(s)), api.ErrName)
	}
}

func TestI2Call(t *testing.T) {
	for _, n := range []int{0, 1, 2, api.MaxNodes - 1, api.MaxNodes} {
		right(t, valued(append(times(n+1, num(1)), with(api.ICall, n))...))
	}
	for _, n := range []int{-1, api.MaxNodes + 1, 1<<63 - 1, -1 << 63} {
		wrong(t, valued(append(times(api.MaxNodes+2, num(1)), with(api.ICall, n))...), api.ErrRange)
		wrong(t, valued(with(api.ICall, n)), api.ErrRange)
	}
}

// I2: jumps go to an instruction of the procedure; whether onwards, is told behind that.
func TestI2Jumps(t *testing.T) {
	for _, op := range []int{api.IJump, api.IUnless} {
		takes := times(op-api.IJump, boolean(1))
		place := len(takes)
		l := append(append(takes, with(op, 0)), num(1), pop, num(1), pop, ret)
		for a, want := range map[int]api.Errno{
			-1: api.ErrRange, -1 << 63: api.ErrRange, len(l): api.ErrRange, len(l) + 1: api.ErrRange, 1<<63 - 1: api.ErrRange,
			0: api.ErrFit, place: api.ErrFit, place + 1: api.OK,
		} {
			l[place].A = a
			judgedUnit(t, alone(l...), want)
			inner := slices.Clone(l)
			inner[len(l)-2] = num(2)
			inner[len(l)-3] = with(api.IJump, len(l)-2)
			judgedUnit(t, unit(proto(0, with(api.IClosure, 1), pop, ret), proto(0, inner...)), want)
		}
	}
	// The longest way there is.
	long := append([]api.Ins{boolean(1), with(api.IUnless, api.MaxCode-1), with(api.IJump, 3)}, times(api.MaxCode/2-2, num(1), pop)...)
	long = append(long, ret)
	right(t, alone(long...))
	long[1].A = api.MaxCode
	wrong(t, alone(long...), api.ErrRange)
}

// Z5: fields that a kind has not mean nothing, and are left out of the bytes.
func TestI2Fields(t *testing.T) {
	l := procedures("0: fn1 def:m.f pop #1 unless7 5 to8 'a pop m.f car 1 call2 set:m.x pop ret | 1: @0 set@0 ret")
	want := right(t, unit(l...))
	for i := range l {
		for j := range l[i].Code {
			in := &l[i].Code[j]
			if in.Op != api.INum && in.Op != api.IBool {
				in.N = -1 << 63
			}
			if in.A == 0 && in.Op != api.ILocal && in.Op != api.ISetLocal {
				in.A = -7
			}
			if in.Op != api.IQuote {
				in.Quote = api.Datum{Kind: 77, Stamp: 1}
			}
			if in.Lib == "" {
				in.Lib = "\x00"
			}
			if in.Own == "" {
				in.Own = "No Name"
			}
		}
	}
	if err := object.Wrong(unit(l...)); err != api.OK {
		t.Errorf("%v is wrong", err)
	}
	if b, err := object.Bytes(unit(l...)); err != api.OK || !slices.Equal(b, want) {
		t.Errorf("%v comes, %v, not %v", b, err, want)
	}
	// In what is quoted, too.
	d := list(api.Datum{Kind: api.DNum, N: 5}, api.Datum{Kind: api.DBool}, list(), sym("a"))
	want = right(t, valued(quote(d)))
	for i := range d.Kids {
		k := &d.Kids[i]
		if k.Kind != api.DSym {
			k.Name, k.Stamp, k.Lib = "A", 3, 4
		}
		if k.Kind != api.DList {
			k.Kids = []api.Datum{{}}
		}
	}
	d.Name, d.N, d.Stamp = "B", 9, 9
	if b, err := object.Bytes(valued(quote(d))); err != api.OK || !slices.Equal(b, want) {
		t.Errorf("%v comes, %v, not %v", b, err, want)
	}
}

// numbered: that is what is wrong with procedures, of which those are bodies, and whose globals have numbers.
func numbered(t *testing.T, s string, bodies []int, globals int, want api.Errno) {
	t.Helper()
	if err := object.WrongNumbered(procedures(s), bodies, globals); err != want {
		t.Errorf("%s, with bodies %v: %v is wrong, not %v", s, bodies, err, want)
	}
}

func TestI2Bodies(t *testing.T) {
	if err := object.WrongNumbered(nil, nil, 0); err != api.OK {
		t.Errorf("%v is wrong with none", err)
	}
	two := "0: fn1 pop ret | 1: @0 ret | 0: fn3 pop ret | 1: @0 ret"
	numbered(t, two, []int{0, 2}, 0, api.OK)
	numbered(t, two, []int{2, 0}, 0, api.OK)
	numbered(t, two, []int{0}, 0, api.ErrFit)
	numbered(t, two, nil, 0, api.ErrFit)
	numbered(t, two, []int{0, 1, 2}, 0, api.ErrRange)
	numbered(t, "0: fn1 pop ret | 0: ret", []int{0, 1}, 0, api.ErrFit)
	numbered(t, "0: fn3 pop ret | 0: fn2 pop ret | 0: 1 ret | 1: @0 ret", []int{0, 1}, 0, api.OK)
	numbered(t, "0: ret | 0: fn0 pop ret", []int{0, 1}, 0, api.ErrRange)
	numbered(t, "0: ret | 0: ret", []int{0, 1}, 0, api.OK)
	numbered(t, "0: ret | 0: 1 ret", []int{0, 1}, 0, api.ErrFit)
	// What bodies take is told behind how large procedures are, and ahead of all else.
	numbered(t, "0: zz | 1: ret", []int{0, 1}, 0, api.ErrRange)
	numbered(t, "1: zz | 0:", []int{0, 1}, 0, api.ErrMany)
	// Around a body are none, whatever is ahead of it.
	numbered(t, "0: fn1 pop ret | 2: @1 ret | 0: @0 pop ret", []int{0, 2}, 0, api.ErrRange)
	for _, number := range []int{-1, 2, 1 << 62, -1 << 63} {
		numbered(t, "0: ret | 0: ret", []int{0, 1, number}, 0, api.ErrRange)
	}
}

// I2: where globals have numbers, they have no names, nor have units, so that there may be more procedures.
func TestI2Numbered(t *testing.T) {
	for _, op := range []int{api.IGlobal, api.ISetGlobal, api.IDefine} {
		for _, x := range []struct {
			a, globals int
			want       api.Errno
		}{
			{0, 0, api.ErrRange}, {0, 1, api.OK}, {1, 1, api.ErrRange}, {-1, 1, api.ErrRange}, {499, 500, api.OK}, {500, 500, api.ErrRange},
			{1<<63 - 1, 500, api.ErrRange}, {-1 << 63, 500, api.ErrRange}, {0, -1, api.ErrRange},
		} {
			l := []api.Proto{proto(0, num(1), api.Ins{Op: op, A: x.a, Lib: "\n"}, pop, ret)}
			if op == api.IGlobal {
				l[0].Code[0] = with(api.IJump, 1)
			}
			if err := object.WrongNumbered(l, []int{0}, x.globals); err != x.want {
				t.Errorf("%v with %d globals: %v is wrong, not %v", l, x.globals, err, x.want)
			}
		}
	}
	many := slices.Repeat([]api.Proto{proto(0, ret)}, api.MaxProtos+1)
	bodies := make([]int, len(many))
	for i := range bodies {
		bodies[i] = i
	}
	if err := object.WrongNumbered(many, bodies, 0); err != api.OK {
		t.Errorf("%v is wrong with many", err)
	}
}
