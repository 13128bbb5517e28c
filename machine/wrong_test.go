package machine_test

import (
	"slices"
	"testing"

	"graftwood/api"
	"graftwood/expand"
)

// bodies is an image of so many bodies that do nothing, and globals.
func bodies(n, globals int) api.Image {
	im := api.Image{Globals: make([]api.Bind, globals)}
	for i := range n {
		im.Protos = append(im.Protos, proto(0, ret))
		im.Starts = append(im.Starts, i)
	}
	return im
}

// many is an image of so many procedures, each made by one of two that stand ahead.
func many(n int) api.Image {
	im := api.Image{Starts: []int{0}}
	for i := range n {
		p := proto(0)
		for _, k := range []int{2*i + 1, 2*i + 2} {
			if k < n {
				p.Code = append(p.Code, with(api.IClosure, k), pop)
			}
		}
		if i > 0 {
			p.Code = append(p.Code, num(1))
		}
		p.Code = append(p.Code, ret)
		im.Protos = append(im.Protos, p)
	}
	return im
}

func TestK1Many(t *testing.T) {
	const most = api.MaxParts * api.MaxProtos
	for _, n := range []int{0, 1, 2, api.MaxGlobals - 1, api.MaxGlobals} {
		right(t, bodies(0, n))
		right(t, bodies(1, n))
	}
	for _, n := range []int{api.MaxGlobals + 1, 2 * api.MaxGlobals, 100000} {
		wrong(t, bodies(0, n), api.ErrMany)
		wrong(t, bodies(1, n), api.ErrMany)
	}
	for _, n := range []int{0, 1, 2, api.MaxParts - 1, api.MaxParts} {
		right(t, bodies(n, 0))
	}
	for _, n := range []int{api.MaxParts + 1, 2 * api.MaxParts, 1000} {
		wrong(t, bodies(n, 0), api.ErrMany)
	}
	for _, n := range []int{1, 2, api.MaxProtos, api.MaxProtos + 1, most - 1, most} {
		right(t, many(n))
	}
	for _, n := range []int{most + 1, 2 * most} {
		wrong(t, many(n), api.ErrMany)
		wrong(t, api.Image{Protos: make([]api.Proto, n)}, api.ErrMany)
	}
}

// K1: too many is told ahead of what is wrong with a start, or a procedure.
func TestK1ManyFirst(t *testing.T) {
	for _, im := range []api.Image{bodies(1, api.MaxGlobals+1), bodies(api.MaxParts+1, 0), many(api.MaxParts*api.MaxProtos + 1)} {
		bad := im
		bad.Starts = append([]int{-1}, im.Starts...)
		wrong(t, bad, api.ErrMany)
		bad = im
		bad.Protos = append([]api.Proto{{Args: -1, Code: []api.Ins{{}}}}, im.Protos...)
		wrong(t, bad, api.ErrMany)
	}
	wrong(t, api.Image{Starts: make([]int, api.MaxParts)}, api.ErrRange)
	wrong(t, api.Image{Starts: make([]int, api.MaxParts+1)}, api.ErrMany)
}

func TestK1Starts(t *testing.T) {
	const five = "0: ret | 0: ret | 0: ret | 0: ret | 0: ret"
	right(t, image(0, five, 0, 1, 2, 3, 4))
	for _, l := range [][]int{
		{-1}, {5}, {6}, {1<<63 - 1}, {-1 << 63}, {0, 0}, {1, 0}, {1, 1}, {4, 4}, {0, 5}, {0, -1}, {0, 1, 2, 3, 4, 4}, {0, 1, 2, 3, 4, 5}, {0, 1, 2, 4, 3},
		{0, 1, 3, 2, 4}, {0, 2, 1, 3, 4}, {0, 1, 2, 3, 1 << 62}, {-1, 0, 1, 2, 3, 4}, {4, 3, 2, 1, 0},
	} {
		wrong(t, image(0, five, l...), api.ErrRange)
		// Ahead of what is wrong with a procedure.
		im := image(0, five, l...)
		im.Protos[0] = api.Proto{Args: -1}
		im.Protos[1] = proto(0, api.Ins{})
		wrong(t, im, api.ErrRange)
	}
	wrong(t, api.Image{Starts: []int{0}}, api.ErrRange)
	// The others are no bodies: they need what makes them.
	for _, l := range [][]int{nil, {0}, {4}, {0, 1, 2, 3}, {1, 2, 3, 4}, {0, 2, 4}} {
		wrong(t, image(0, five, l...), api.ErrFit)
	}
	right(t, api.Image{})
	right(t, image(0, "0: fn1 pop ret | 0: 1 ret | 0: ret | 0: fn4 pop ret | 0: 1 ret", 0, 2, 3))
	wrong(t, image(0, "0: fn1 pop ret | 0: 1 ret | 0: ret | 0: fn4 pop ret | 0: 1 ret", 2, 3), api.ErrFit)
	wrong(t, image(0, "0: fn1 pop ret | 0: 1 ret | 0: ret | 0: fn4 pop ret | 0: 1 ret", 0, 1, 2, 3), api.ErrFit)
}

// K1: procedures' sizes come first, each one's in order, then what the bodies take.
func TestK1Sizes(t *testing.T) {
	inner := func(p api.Proto) api.Image {
		im := image(0, "0: fn1 pop ret | 0: 1 ret | 0: ret", 0, 2)
		im.Protos[1] = p
		return im
	}
	right(t, inner(proto(api.MaxNodes, num(1), ret)))
	wrong(t, inner(proto(api.MaxNodes+1, num(1), ret)), api.ErrRange)
	wrong(t, inner(proto(-1, num(1), ret)), api.ErrRange)
	wrong(t, inner(proto(0)), api.ErrMany)
	right(t, inner(proto(0, append(times((api.MaxCode-2)/2, num(1), pop), num(1), ret)...)))
	wrong(t, inner(proto(0, append(times((api.MaxCode-1)/2, num(1), pop), with(api.IJump, api.MaxCode-1), num(1), ret)...)), api.ErrMany)
	// A body has no arguments: any of them.
	wrong(t, image(0, "1: ret", 0), api.ErrRange)
	wrong(t, image(0, "0: ret | 1: ret", 0, 1), api.ErrRange)
	wrong(t, image(0, "0: ret | 2000: ret | 0: ret", 0, 1, 2), api.ErrRange)
	right(t, image(0, "0: fn1 pop ret | 1: 1 ret", 0))
	// Sizes of all, then bodies, then instructions.
	wrong(t, image(0, "1: ret | 0: ret | 0: ", 0, 1, 2), api.ErrMany)
	wrong(t, image(0, "-1: ret | 0: ret | 0: ", 0, 1, 2), api.ErrRange)
	wrong(t, image(0, "0: if pop ret | 1: ret", 0, 1), api.ErrRange)
	wrong(t, image(0, "0: if pop ret | 0: ", 0, 1), api.ErrMany)
	wrong(t, image(0, "0: if pop ret | 0: 1 ret | 1: ret", 0, 2), api.ErrRange)
	wrong(t, image(0, "0: if pop ret | 0: 1 ret | 0: ret", 0, 2), api.ErrName)
}

func TestK1Instructions(t *testing.T) {
	for err, l := range map[api.Errno][]string{
		api.OK: {
			"ret", "1000000000000000 pop -1000000000000000 pop ret", "#0 pop #1 pop ret", "'a pop '(a,(b)) pop ret", "1 unless2 ret", "to1 ret", "get0 pop get2 pop ret", "1 set0 set2 def0 def2 pop ret",
			"fn1 pop ret | 1: @0 set@0 ret", "fn1 pop ret | 2: fn2 ret | 1: @0 pop @2 set@2 ret", "1 call0 pop ret", "#1 unless4 1 to5 2 pop ret",
		},
		api.ErrRange: {"1000000000000001 pop ret", "-1000000000000001 pop ret", "#2 pop ret", "#-1 pop ret", "@0 pop ret", "1 set@0 pop ret", "@-1 pop ret", "get3 pop ret", "get-1 pop ret", "1 set3 pop ret", "1 set-1 pop ret", "1 def3 pop ret", "1 def-1 pop ret", "get9223372036854775807 pop ret", "fn0 pop ret", "fn1 pop ret", "fn-1 pop ret", "fn2 pop ret | 0: 1 ret", "fn1 pop ret | 1: @1 ret", "fn1 pop ret | 1: 1 set@1 ret", "fn1 pop ret | 1: fn1 ret", "1 call2001 pop ret", "1 call-1 pop ret", "to2 ret", "to-1 ret", "1 unless3 ret", "1 unless-1 ret"},
		api.ErrName:  {"if pop ret", "x pop ret", "Car pop ret"},
		api.ErrFit: {
			"ret | 0: 1 ret", "fn1 pop fn1 pop ret | 0: 1 ret", "fn1 pop fn2 pop ret | 0: fn2 ret | 0: 1 ret", "1 ret", "pop ret", "1 pop", "call0 pop ret", "1 call1 pop ret", "to0 ret", "to2 1 ret", "1 unless2 1 ret", "1 unless0 ret", "ret ret",
			"fn1 pop ret | 0: ret", "fn1 pop ret | 0: 1 1 ret", "set0 pop ret", "1",
		},
	} {
		for _, s := range l {
			wrong(t, body(s), err)
			// Wherever the procedures stand in the image.
			wrong(t, behind(body(s)), err)
		}
	}
	for _, op := range []int{-1, 0, 16, 17, 1 << 40} {
		wrong(t, alone(with(op, 0)), api.ErrKind)
	}
}

// behind is im behind another body, which makes nothing.
func behind(im api.Image) api.Image {
	out := api.Image{Globals: im.Globals, Protos: []api.Proto{proto(0, num(1), pop, ret)}, Starts: []int{0}}
	for _, p := range im.Protos {
		p.Code = slices.Clone(p.Code)
		for i := range p.Code {
			if p.Code[i].Op == api.IClosure {
				p.Code[i].A++
			}
		}
		out.Protos = append(out.Protos, p)
	}
	for _, n := range im.Starts {
		out.Starts = append(out.Starts, n+1)
	}
	return out
}

// K1: a body is made by nothing, and uses its stack as a body, wherever it stands.
func TestK1Bodies(t *testing.T) {
	wrong(t, image(0, "0: fn1 pop ret | 0: ret", 0, 1), api.ErrFit)
	wrong(t, image(0, "0: fn2 pop ret | 0: ret | 0: ret", 0, 1, 2), api.ErrFit)
	wrong(t, image(0, "0: ret | 0: 1 ret", 0, 1), api.ErrFit)
	wrong(t, image(0, "0: ret | 0: fn0 pop ret", 0, 1), api.ErrRange)
	// A procedure may stand behind another body than the one that makes it.
	right(t, image(0, "0: fn2 pop ret | 0: fn3 pop ret | 1: @0 ret | 2: @1 ret", 0, 1))
	right(t, image(0, "0: fn3 pop ret | 0: fn2 pop ret | 1: @0 ret | 2: @1 ret", 0, 1))
	// None are around any body.
	wrong(t, image(0, "0: fn1 pop ret | 1: @0 ret | 0: @0 pop ret", 0, 2), api.ErrRange)
	wrong(t, image(0, "0: fn1 pop ret | 1: 1 ret | 0: fn3 pop ret | 1: @1 ret", 0, 2), api.ErrRange)
}

// K1: what kinds have not means nothing, nor do globals' names.
func TestK1Nothing(t *testing.T) {
	odd := api.Ins{A: -1, N: -1 << 63, Lib: "\n", Own: "\x00", Quote: api.Datum{Kind: 9, Kids: []api.Datum{{}}}}
	im := image(2, "0: fn1 def0 pop get0 1 call1 set1 pop #1 unless12 'a to13 'b pop ret | 1: car @0 call1 set@0 ret", 0)
	im.Globals = []api.Bind{{Here: "\n", Lib: "\n", Own: "("}, {Here: "\n", Lib: "\n", Own: "("}}
	for i := range im.Protos {
		for j := range im.Protos[i].Code {
			in := &im.Protos[i].Code[j]
			is := *in
			*in = odd
			in.Op = is.Op
			switch is.Op {
			case api.INum, api.IBool:
				in.N = is.N
			case api.IQuote:
				in.Quote = is.Quote
			case api.IPrim:
				in.Own = is.Own
			default:
				in.A = is.A
			}
		}
	}
	right(t, im)
	ends(t, im, 100, api.RunType)
}

func TestK1Quote(t *testing.T) {
	deep := func(n int) api.Datum {
		d := sym("a")
		for range n {
			d = list(d)
		}
		return d
	}
	for _, x := range []struct {
		d    api.Datum
		want api.Errno
	}{
		{api.Datum{}, api.ErrKind}, {api.Datum{Kind: 5}, api.ErrKind}, {sym(""), api.ErrName}, {sym("A"), api.ErrName}, {list(sym("a"), sym("(")), api.ErrName}, {list(api.Datum{Kind: api.DSym, Name: "a", Stamp: 1}), api.ErrFit}, {api.Datum{Kind: api.DSym, Name: "a", Lib: 1}, api.ErrFit}, {api.Datum{Kind: api.DBool, N: 2}, api.ErrRange}, {api.Datum{Kind: api.DNum, N: api.MaxInt + 1}, api.ErrRange},
		{list(slices.Repeat([]api.Datum{list()}, api.MaxNodes-1)...), api.OK}, {list(slices.Repeat([]api.Datum{list()}, api.MaxNodes)...), api.ErrMuch}, {deep(100), api.ErrMuch},
	} {
		wrong(t, alone(quote(x.d), pop), x.want)
	}
}

func TestK1Prims(t *testing.T) {
	for _, s := range expand.Prims() {
		right(t, alone(prim(s), pop))
	}
	for _, s := range append(expand.Specials(), "", "base", "a") {
		wrong(t, alone(prim(s), pop), api.ErrName)
	}
}
