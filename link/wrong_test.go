package link_test

import (
	"fmt"
	"slices"
	"strings"
	"testing"

	"graftwood/api"
)

// several is so many units that do nothing, each with a name of its own.
func several(n int) []api.Unit {
	var out []api.Unit
	for i := range n {
		out = append(out, alone(fmt.Sprint("u", i)))
	}
	return out
}

func TestJ1Many(t *testing.T) {
	for _, n := range []int{0, 1, 2, api.MaxParts - 1, api.MaxParts} {
		if im := linked(t, several(n)); len(im.Starts) != n || len(im.Protos) != n {
			t.Errorf("%d units have %d procedures, and begin with %v", n, len(im.Protos), im.Starts)
		}
	}
	failsAll(t, several(api.MaxParts+1), api.ErrMany, 0)
	failsAll(t, several(1000), api.ErrMany, 0)
	// Ahead of what is wrong with a unit.
	bad := slices.Repeat([]api.Unit{alone("\n")}, api.MaxParts+1)
	failsAll(t, bad, api.ErrMany, 0)
	failsAll(t, bad[1:], api.ErrName, 0)
	failsAll(t, slices.Repeat([]api.Unit{alone("m")}, api.MaxParts+1), api.ErrMany, 0)
	failsAll(t, slices.Repeat([]api.Unit{alone("m")}, api.MaxParts), api.ErrName, 1)
}

// wrongUnits is units that are wrong by themselves, and how.
func wrongUnits() map[api.Errno][]api.Unit {
	inner := alone("w", with(api.IClosure, 1), pop)
	inner.Protos = append(inner.Protos, api.Proto{Args: 1, Code: []api.Ins{with(api.ILocal, 1), ret}})
	args := alone("w")
	args.Protos[0].Args = 1
	return map[api.Errno][]api.Unit{
		api.ErrName: {alone("\n"), alone("\u00e9"), alone(strings.Repeat("w", api.MaxLibName+1)), alone("w", api.Ins{Op: api.IPrim, Own: "if"}, pop),
			alone("w", of(api.IGlobal, "m", ""), pop), alone("w", of(api.IGlobal, "\t", "x"), pop), alone("w", num(1), of(api.IDefine, "w", "5"), pop), alone("w", with(api.IGlobal, 0), pop)},
		api.ErrMany:  {{}, {Name: "w"}, {Name: "w", Protos: make([]api.Proto, 1)}, {Name: "w", Protos: make([]api.Proto, api.MaxProtos+1)}},
		api.ErrRange: {inner, args, alone("w", num(api.MaxInt+1), pop), alone("w", with(api.ILocal, 0), pop), alone("w", with(api.IJump, 2))},
		api.ErrFit:   {alone("w", num(1)), alone("w", pop), {Name: "w", Protos: procedures("0: ret | 0: 1 ret")}},
		api.ErrKind:  {alone("w", api.Ins{}), alone("w", with(16, 0)), alone("w", api.Ins{Op: api.IQuote}, pop)},
		api.ErrMuch:  {alone("w", api.Ins{Op: api.IQuote, Quote: list(slices.Repeat([]api.Datum{list()}, api.MaxNodes)...)}, pop)},
	}
}

func TestJ1Wrong(t *testing.T) {
	for err, l := range wrongUnits() {
		for _, u := range l {
			for _, n := range []int{0, 1, 5, api.MaxParts - 1} {
				failsAll(t, append(several(n), u), err, n)
			}
			// Ahead of what is wrong with those behind it, and of what any of them speaks of.
			failsAll(t, append([]api.Unit{u}, units("m = 0: z.z pop ret\nm = 0: 1 def:n.x pop ret")...), err, 0)
			failsAll(t, append(units("m = 0: z.z pop 1 set:k.x pop ret\nk = 0: 1 def:k.x pop ret"), u, u), err, 2)
		}
	}
}

func TestJ1SameName(t *testing.T) {
	fails(t, "m = 0: ret\nm = 0: ret", api.ErrName, 1)
	fails(t, "m = 0: ret\nn = 0: ret\nm = 0: ret", api.ErrName, 2)
	fails(t, "m = 0: ret\nn = 0: ret\nk = 0: ret\nn = 0: ret\nm = 0: ret", api.ErrName, 3)
	fails(t, "= 0: ret\n= 0: ret", api.ErrName, 1)
	fails(t, "a b = 0: ret\na b = 0: ret", api.ErrName, 1)
	for _, s := range []string{"m = 0: ret\nM = 0: ret", "m = 0: ret\n = 0: ret", "a b = 0: ret\na  b = 0: ret", "mm = 0: ret\nm = 0: ret\nmmm = 0: ret"} {
		linked(t, units(s))
	}
	long := strings.Repeat("a", api.MaxLibName-1)
	linked(t, []api.Unit{alone(long), alone(long + "a"), alone(long + "b")})
	failsAll(t, []api.Unit{alone(long + "b"), alone(long + "a"), alone(long + "b")}, api.ErrName, 2)
	// Behind what is wrong with the unit, ahead of what it defines, and of what the next one is.
	fails(t, "m = 0: ret\nm = 0: 1 ret", api.ErrFit, 1)
	fails(t, "m = 0: ret\nm = 0: 1 def:n.x pop ret", api.ErrName, 1)
	fails(t, "m = 0: ret\nm = 0: ret\nn = 0: 1 ret", api.ErrName, 1)
	fails(t, "m = 0: ret\nn = 0: 1 ret\nm = 0: ret", api.ErrFit, 1)
	fails(t, "m = 0: z.z pop ret\nm = 0: ret", api.ErrName, 1)
}

func TestJ1Define(t *testing.T) {
	fails(t, "n = 0: 1 def:m.x pop ret", api.ErrSet, 0)
	fails(t, "m = 0: 1 def:m.x pop ret\nn = 0: 1 def:m.x pop ret", api.ErrSet, 1)
	fails(t, "n = 0: 1 def:m.x pop ret\nm = 0: 1 def:m.x pop ret", api.ErrSet, 0)
	fails(t, "n = 0: 1 def:n.x pop 1 def:m.x pop ret", api.ErrSet, 0)
	fails(t, "n = 0: 1 def:.x pop ret", api.ErrSet, 0)
	fails(t, "= 0: 1 def:n.x pop ret", api.ErrSet, 0)
	fails(t, "n = 0: 1 def:N.x pop ret", api.ErrSet, 0)
	// In whichever procedure it stands.
	fails(t, "k = 0: ret\nn = 0: fn1 pop ret | 1: fn2 ret | 0: 1 def:m.x ret", api.ErrSet, 1)
	gives(t, "k = 0: ret\nm = 0: fn1 pop ret | 1: fn2 ret | 0: 1 def:m.x ret", image("m.x", "0: ret | 0: fn2 pop ret | 1: fn3 ret | 0: 1 def0 ret", 0, 1))
	gives(t, "= 0: 1 def:.x pop ret", image(".x", "0: 1 def0 pop ret", 0))
	// Behind what is wrong with it, ahead of those behind it, and of what all of them speak of.
	fails(t, "n = 0: 1 def:m.x ret", api.ErrFit, 0)
	fails(t, "n = 0: 1 def:m.x pop ret\nk = 0: 1 ret", api.ErrSet, 0)
	fails(t, "n = 0: 1 def:m.x pop ret\nn = 0: ret", api.ErrSet, 0)
	fails(t, "k = 0: z.z pop 1 set:n.x pop ret\nn = 0: 1 def:n.x pop z.z pop 1 def:m.x pop ret", api.ErrSet, 1)
}

// defines is code that defines so many globals of a library, from that number on.
func defines(lib string, from, n int) []api.Ins {
	var out []api.Ins
	for i := range n {
		out = append(out, num(1), of(api.IDefine, lib, fmt.Sprint("x", from+i)), pop)
	}
	return out
}

func TestJ1MaxGlobals(t *testing.T) {
	m := defines("m", 0, api.MaxGlobals)
	if im := linked(t, []api.Unit{alone("m", m...)}); len(im.Globals) != api.MaxGlobals || im.Globals[499] != (api.Bind{Lib: "m", Own: "x499"}) {
		t.Errorf("the globals are %s", brief(im.Globals))
	}
	failsAll(t, []api.Unit{alone("m", append(m, defines("m", api.MaxGlobals, 1)...)...)}, api.ErrMuch, 0)
	failsAll(t, []api.Unit{alone("m", defines("m", 0, 1999)...)}, api.ErrMuch, 0)
	// What is defined again is no more.
	often := slices.Concat(m, m, m[:30])
	if im := linked(t, []api.Unit{alone("m", often...)}); len(im.Globals) != api.MaxGlobals {
		t.Errorf("there are %d globals", len(im.Globals))
	}
	// All units' count, those of the same Own, too.
	half := api.MaxGlobals / 2
	both := []api.Unit{alone("k"), alone("m", defines("m", 0, half)...), alone("n", defines("n", 0, half)...)}
	if im := linked(t, both); len(im.Globals) != api.MaxGlobals {
		t.Errorf("there are %d globals", len(im.Globals))
	}
	over := slices.Concat(both, []api.Unit{alone("r", defines("r", 0, 1)...)})
	failsAll(t, over, api.ErrMuch, 0)
	failsAll(t, over[1:], api.ErrMuch, 0)
	// Behind what is wrong with any unit, ahead of what they speak of.
	failsAll(t, append(over, alone("m")), api.ErrName, 4)
	failsAll(t, append(over, alone("s", defines("t", 0, 1)...)), api.ErrSet, 4)
	failsAll(t, append(over, alone("s", pop)), api.ErrFit, 4)
	failsAll(t, append(units("a = 0: z.z pop ret\nb = 0: 1 set:m.x0 pop ret"), over...), api.ErrMuch, 0)
	failsAll(t, append(units("a = 0: z.z pop ret\nb = 0: 1 set:m.x0 pop ret"), both...), api.ErrName, 0)
}

func TestJ1Unknown(t *testing.T) {
	for _, use := range []string{"m.y", "1 set:m.y", "n.x", "1 set:n.x", ".x", "M.x", "m.xx", "mm.x", "base.car"} {
		fails(t, "m = 0: "+use+" pop 1 def:m.x pop ret", api.ErrName, 0)
		fails(t, "m = 0: 1 def:m.x pop ret\nk = 0: ret\nn = 0: m.x pop "+use+" pop ret", api.ErrName, 2)
		fails(t, "n = 0: "+use+" pop ret\nm = 0: 1 def:m.x pop ret", api.ErrName, 0)
		fails(t, "m = 0: fn1 def:m.x pop ret | 1: fn2 ret | 0: "+use+" ret", api.ErrName, 0)
	}
	// The unit's own name, and whatever is set, defines nothing.
	fails(t, "m = 0: m.m pop ret", api.ErrName, 0)
	fails(t, "m = 0: 1 set:m.x pop m.x pop ret", api.ErrName, 0)
	// What is defined anywhere is known everywhere.
	gives(t, "n = 0: m.x pop ret\nm = 0: m.x pop fn1 pop ret | 1: m.x pop 1 def:m.x ret", image("m.x", "0: get0 pop ret | 0: get0 pop fn2 pop ret | 1: get0 pop 1 def0 ret", 0, 1))
	gives(t, "m = 0: 1 set:m.x pop 1 def:m.x pop ret", image("m.x", "0: 1 set0 pop 1 def0 pop ret", 0))
	// The first unit's is told.
	fails(t, "a = 0: ret\nb = 0: z.z pop ret\nc = 0: y.y pop ret", api.ErrName, 1)
}

func TestJ1Set(t *testing.T) {
	const m = "m = 0: 1 def:m.x pop ret\n"
	fails(t, m+"n = 0: 1 set:m.x pop ret", api.ErrSet, 1)
	fails(t, "n = 0: 1 set:m.x pop ret\n"+m, api.ErrSet, 0)
	fails(t, m+"= 0: 1 set:m.x pop ret", api.ErrSet, 1)
	fails(t, "= 0: 1 def:.x pop ret\nn = 0: 1 set:.x pop ret", api.ErrSet, 1)
	fails(t, m+"n = 0: fn1 pop ret | 1: fn2 ret | 0: 1 set:m.x ret", api.ErrSet, 1)
	fails(t, m+"k = 0: m.x pop ret\nn = 0: 1 def:n.x pop 1 set:n.x pop m.x pop 1 set:m.x pop ret", api.ErrSet, 2)
	// To ask for it, and to set what is its own, is right.
	gives(t, m+"n = 0: 1 def:n.x pop m.x set:n.x pop ret", image("m.x n.x", "0: 1 def0 pop ret | 0: 1 def1 pop get0 set1 pop ret", 0, 1))
}

// J1: of what several instructions speak of, the first one is told, and of one, that it is not defined.
func TestJ1First(t *testing.T) {
	const m = "m = 0: 1 def:m.x pop ret\n"
	fails(t, m+"n = 0: 1 set:m.y pop ret", api.ErrName, 1)
	fails(t, m+"n = 0: 1 set:m.x pop z.z pop ret", api.ErrSet, 1)
	fails(t, m+"n = 0: z.z pop 1 set:m.x pop ret", api.ErrName, 1)
	fails(t, m+"n = 0: 1 set:m.x set:m.y pop ret", api.ErrSet, 1)
	fails(t, m+"n = 0: 1 set:m.y set:m.x pop ret", api.ErrName, 1)
	fails(t, m+"n = 0: fn1 pop 1 set:m.x pop ret | 0: z.z ret", api.ErrSet, 1)
	fails(t, m+"n = 0: fn1 pop z.z pop ret | 0: 1 set:m.x ret", api.ErrName, 1)
	fails(t, m+"n = 0: 1 set:m.x pop ret\nk = 0: z.z pop ret", api.ErrSet, 1)
	fails(t, m+"n = 0: z.z pop ret\nk = 0: 1 set:m.x pop ret", api.ErrName, 1)
}
