package link_test

import (
	"slices"
	"testing"

	"graftwood/api"
)

func TestJ2None(t *testing.T) {
	givesAll(t, nil, api.Image{})
	gives(t, "m = 0: ret", image("", "0: ret", 0))
}

// J2: the second unit's first procedure has number 1.
func TestJ2Second(t *testing.T) {
	gives(t, "m = 0: 5 def:m.x pop ret\nn = 0: out m.x call1 pop ret", image("m.x", "0: 5 def0 pop ret | 0: out get0 call1 pop ret", 0, 1))
}

func TestJ2Globals(t *testing.T) {
	// In the order in which they are defined, not asked for, set, or called.
	gives(t, "m = 0: m.b pop 1 set:m.c pop 1 def:m.z pop 1 def:m.c pop 1 def:m.a pop 1 def:m.b pop ret",
		image("m.z m.c m.a m.b", "0: get3 pop 1 set1 pop 1 def0 pop 1 def1 pop 1 def2 pop 1 def3 pop ret", 0))
	// Each one once.
	gives(t, "m = 0: 1 def:m.x pop 2 def:m.y pop 3 def:m.x pop 4 def:m.z pop 5 def:m.y pop ret",
		image("m.x m.y m.z", "0: 1 def0 pop 2 def1 pop 3 def0 pop 4 def2 pop 5 def1 pop ret", 0))
	// Procedure by procedure, wherever these are made.
	gives(t, "m = 0: fn2 pop fn1 pop 1 def:m.a pop ret | 0: 1 def:m.c ret | 0: 1 def:m.b set:m.c ret",
		image("m.a m.c m.b", "0: fn2 pop fn1 pop 1 def0 pop ret | 0: 1 def1 ret | 0: 1 def2 set1 ret", 0))
	// Unit by unit: Lib tells those of the same Own apart.
	gives(t, "n = 0: m.y pop m.x pop 1 def:n.x pop ret\nm = 0: fn1 def:m.x pop ret | 0: n.x set:m.y def:m.y ret\n= 0: m.y def:.x pop n.x pop .x pop ret",
		image("n.x m.x m.y .x", "0: get2 pop get1 pop 1 def0 pop ret | 0: fn2 def1 pop ret | 0: get0 set2 def2 ret | 0: get2 def3 pop get0 pop get3 pop ret", 0, 1, 3))
	// A blank is one of a library's name, no mark between it and what is its own.
	l := []api.Unit{alone("a b", num(1), of(api.IDefine, "a b", "c"), pop), alone("a", num(1), of(api.IDefine, "a", "b"), of(api.IDefine, "a", "c"), of(api.IGlobal, "a b", "c"), pop, pop)}
	want := image("a.c a.b a.c", "0: 1 def0 pop ret | 0: 1 def1 def2 get0 pop pop ret", 0, 1)
	want.Globals[0].Lib = "a b"
	givesAll(t, l, want)
	// What would be the same, were Lib and Own written one behind the other.
	gives(t, "a = 0: 1 def:a.bc pop ret\nab = 0: a.bc def:ab.c pop ret\nabc = 0: ab.c pop ret", image("a.bc ab.c", "0: 1 def0 pop ret | 0: get0 def1 pop ret | 0: get1 pop ret", 0, 1, 2))
}

func TestJ2Protos(t *testing.T) {
	gives(t, "a = 0: fn1 pop fn3 pop ret | 1: fn2 ret | 2: @2 ret | 3: @2 set@0 ret\nb = 0: ret\nc = 0: fn2 pop fn1 pop ret | 4: @3 ret | 0: fn3 ret | 2: car @0 @1 call2 ret",
		image("", "0: fn1 pop fn3 pop ret | 1: fn2 ret | 2: @2 ret | 3: @2 set@0 ret | 0: ret | 0: fn7 pop fn6 pop ret | 4: @3 ret | 0: fn8 ret | 2: car @0 @1 call2 ret", 0, 4, 5))
}

// J2: places, counts and numbers of whatever kind stay as they were, behind other units, too.
func TestJ2AsItWas(t *testing.T) {
	const body = " 0: #1 unless4 1000000000000000 to5 'a pop #0 -1000000000000000 '(a,(quote,b),-5,#t,()) pop pop pop car cdr cons call2 call0 pop ret"
	const one = "0: 1 pop fn1 pop ret | 2000: @1999 set@0 ret"
	gives(t, "k = "+one+"\nm ="+body+"\nn = "+body, image("", one+" |"+body+" |"+body, 0, 2, 3))
}

// filled is in with something in all fields but those that its kind has.
func filled(in api.Ins) api.Ins {
	out := api.Ins{Op: in.Op, A: 77, N: -7, Lib: "\n", Own: "(", Quote: api.Datum{Kind: 9, Kids: []api.Datum{{Kind: -1}}}}
	switch in.Op {
	case api.INum, api.IBool:
		out.N = in.N
	case api.IQuote:
		out.Quote = filledDatum(in.Quote)
	case api.IGlobal, api.ISetGlobal, api.IDefine:
		out.Lib, out.Own = in.Lib, in.Own
	case api.IPrim:
		out.Own = in.Own
	case api.IPop, api.IReturn:
	default:
		out.A = in.A
	}
	return out
}

func filledDatum(d api.Datum) api.Datum {
	out := api.Datum{Kind: d.Kind, N: 99, Name: "(", Stamp: 4, Lib: 5, Kids: []api.Datum{{Kind: -1}}}
	switch d.Kind {
	case api.DNum, api.DBool:
		out.N = d.N
	case api.DSym:
		out.Name, out.Stamp, out.Lib = d.Name, 0, 0
	case api.DList:
		out.Kids = nil
		for _, k := range d.Kids {
			out.Kids = append(out.Kids, filledDatum(k))
		}
	}
	return out
}

// J2: what kinds have not means nothing, and is left out.
func TestJ2LeftOut(t *testing.T) {
	l := units("k = 0: ret\nm = 0: 5 pop #1 unless6 'a to7 2 '(a,1,#f,(b)) pop pop car fn1 call1 def:m.x pop m.x set:m.x pop ret | 1: @0 set@0 ret")
	want := image("m.x", "0: ret | 0: 5 pop #1 unless6 'a to7 2 '(a,1,#f,(b)) pop pop car fn2 call1 def0 pop get0 set0 pop ret | 1: @0 set@0 ret", 0, 1)
	met := map[int]int{}
	for i := range l {
		for _, p := range l[i].Protos {
			for j := range p.Code {
				p.Code[j] = filled(p.Code[j])
				met[p.Code[j].Op]++
			}
		}
	}
	if len(met) != api.IReturn {
		t.Errorf("only %d kinds", len(met))
	}
	givesAll(t, l, want)
}

func TestJ2Full(t *testing.T) {
	var l []api.Unit
	for _, u := range several(api.MaxParts) {
		u.Protos[0].Code = nil
		for i := 1; i < api.MaxProtos; i++ {
			u.Protos[0].Code = append(u.Protos[0].Code, with(api.IClosure, i), pop)
			u.Protos = append(u.Protos, api.Proto{Args: i % 7, Code: []api.Ins{num(int64(i)), ret}})
		}
		u.Protos[0].Code = append(u.Protos[0].Code, ret)
		l = append(l, u)
	}
	im := linked(t, l)
	if len(im.Protos) != api.MaxParts*api.MaxProtos || len(im.Starts) != api.MaxParts {
		t.Fatalf("%d procedures, and %d starts", len(im.Protos), len(im.Starts))
	}
	for i, start := range im.Starts {
		if start != i*api.MaxProtos || im.Protos[start].Code[2*498].A != start+499 || im.Protos[start+499].Args != 499%7 {
			t.Errorf("unit %d begins with %d", i, start)
		}
	}
	// As long as a procedure may be.
	long := alone("m", slices.Repeat([]api.Ins{num(1), of(api.IDefine, "m", "x"), pop}, 1999)...)
	if im := linked(t, []api.Unit{alone("k"), long}); len(im.Protos[1].Code) != 3*1999+1 {
		t.Errorf("%d instructions", len(im.Protos[1].Code))
	}
}
