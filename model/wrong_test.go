package model_test

import (
	"testing"

	"graftwood/api"
	"graftwood/expand"
)

func TestG1Parts(t *testing.T) {
	wrong(t, nil, api.OK, 0)
	wrong(t, make([]api.Part, api.MaxParts), api.OK, 0)
	wrong(t, make([]api.Part, api.MaxParts+1), api.ErrMany, 0)
	// Ahead of what is wrong with one.
	l := make([]api.Part, api.MaxParts+1)
	l[0] = part(api.Core{})
	wrong(t, l, api.ErrMany, 0)
	wrong(t, l[:api.MaxParts], api.ErrKind, 0)
}

func TestG1Body(t *testing.T) {
	full := part(times(api.MaxBody, num(1))...)
	over := part(times(api.MaxBody+1, num(1))...)
	wrong(t, []api.Part{full, full}, api.OK, 0)
	wrong(t, []api.Part{full, full, over}, api.ErrMany, 2)
	wrong(t, []api.Part{over, over}, api.ErrMany, 0)
	// Ahead of its expressions, behind those of a part ahead.
	over.Body[0] = api.Core{}
	wrong(t, []api.Part{full, over}, api.ErrMany, 1)
	wrong(t, []api.Part{full, part(num(1), boolean(2)), over}, api.ErrRange, 1)
}

func TestG1FirstExpression(t *testing.T) {
	wrong(t, alone(num(1), prim("zz"), api.Core{}), api.ErrName, 0)
	wrong(t, alone(num(1), api.Core{}, prim("zz")), api.ErrKind, 0)
	wrong(t, []api.Part{part(num(1)), part(), part(num(1), local(0)), part(api.Core{})}, api.ErrRange, 2)
}

// wide has so many nodes.
func wide(nodes int) api.Core {
	return seq(times(nodes-1, num(1))...)
}

// deep is nested so deep, with c in the depth.
func deep(n int, c api.Core) api.Core {
	for range n - 1 {
		c = seq(c)
	}
	return c
}

func TestG1Nodes(t *testing.T) {
	wrong(t, alone(wide(api.MaxCore), wide(api.MaxCore)), api.OK, 0)
	wrong(t, alone(wide(api.MaxCore), wide(api.MaxCore+1)), api.ErrMuch, 0)
	wrong(t, []api.Part{part(wide(api.MaxCore)), part(num(1), wide(api.MaxCore+1))}, api.ErrMuch, 1)
	half := wide(api.MaxCore / 2)
	wrong(t, alone(call(num(1), half, seq(times(api.MaxCore/2-3, num(1))...))), api.OK, 0)
	wrong(t, alone(call(num(1), half, seq(times(api.MaxCore/2-2, num(1))...))), api.ErrMuch, 0)
	// What is quoted has no nodes.
	big := quote(list(make([]api.Datum, api.MaxNodes-1)...))
	for i := range big.Quote.Kids {
		big.Quote.Kids[i] = sym("a")
	}
	wrong(t, alone(seq(times(api.MaxCore-1, big)...)), api.OK, 0)
}

// At the node behind the last one: too much is told ahead of what is wrong with it, and behind what is wrong with those ahead.
func TestG1NodesInOrder(t *testing.T) {
	for _, c := range []api.Core{{}, num(api.MaxInt + 1), prim("zz"), seq(), quote(api.Datum{})} {
		l := times(api.MaxCore, num(1))
		l[api.MaxCore-1] = c
		wrong(t, alone(seq(l...)), api.ErrMuch, 0)
	}
	l := times(api.MaxCore, num(1))
	l[api.MaxCore-2] = prim("zz")
	wrong(t, alone(seq(l...)), api.ErrName, 0)
	wrong(t, alone(seq(seq(times(api.MaxCore, num(1))...), prim("zz"))), api.ErrMuch, 0)
	wrong(t, alone(seq(prim("zz"), seq(times(api.MaxCore, num(1))...))), api.ErrName, 0)
	// How many kids a node has is told ahead of them.
	wrong(t, alone(choose(num(1), num(2), num(3)), api.Core{Kind: api.CIf, Kids: times(api.MaxCore, num(1))}), api.ErrMany, 0)
	wrong(t, alone(api.Core{Kind: 99, Kids: times(api.MaxCore, num(1))}), api.ErrKind, 0)
}

func TestG1Nest(t *testing.T) {
	wrong(t, alone(deep(api.MaxNest, num(1))), api.OK, 0)
	wrong(t, alone(deep(api.MaxNest+1, num(1))), api.ErrMuch, 0)
	wrong(t, alone(deep(api.MaxNest, api.Core{})), api.ErrKind, 0)
	wrong(t, alone(deep(api.MaxNest+1, api.Core{})), api.ErrMuch, 0)
	wrong(t, alone(seq(prim("zz"), deep(api.MaxNest, num(1)))), api.ErrName, 0)
	wrong(t, alone(seq(deep(api.MaxNest, num(1)), prim("zz"))), api.ErrMuch, 0)
	wrong(t, alone(seq(deep(api.MaxNest-1, num(1)), prim("zz"))), api.ErrName, 0)
	// By way of each kind that has kids.
	c := deep(api.MaxNest-7, num(1))
	wrong(t, alone(define("x", setGlobal("x", lambda(1, setLocal(0, call(num(1), choose(num(1), num(1), seq(c)))))))), api.OK, 0)
	c = deep(api.MaxNest-6, num(1))
	wrong(t, alone(define("x", setGlobal("x", lambda(1, setLocal(0, call(num(1), choose(num(1), num(1), seq(c)))))))), api.ErrMuch, 0)
	// What is quoted is not nested in it.
	wrong(t, alone(deep(api.MaxNest, quote(list(list(list()))))), api.OK, 0)
}

func TestG1Kind(t *testing.T) {
	for _, kind := range []int{0, 14, 15, -1, 1 << 40, -1 << 63} {
		wrongCore(t, api.Core{Kind: kind}, api.ErrKind)
		wrongCore(t, api.Core{Kind: kind, N: 1 << 60, Kids: times(2, api.Core{})}, api.ErrKind)
	}
}

// kinds is a right node of each kind, where a parameter is around.
func kinds() []api.Core {
	one := num(1)
	return []api.Core{one, boolean(1), quote(sym("a")), local(0), global("x"), prim("car"), choose(one, one, one), lambda(2, one), call(one, one), setLocal(0, one), setGlobal("x", one), seq(one, one), define("x", one)}
}

func TestG1Kids(t *testing.T) {
	least := []int{0, 0, 0, 0, 0, 0, 3, 1, 1, 1, 1, 1, 1}
	for i, c := range kinds() {
		most := least[i]
		if c.Kind == api.CCall || c.Kind == api.CSeq {
			most = 6
		}
		for n := range 6 {
			c.Kids = times(n, num(1))
			if n >= least[i] && n <= most {
				right(t, lambda(1, c))
			} else {
				wrongCore(t, lambda(1, c), api.ErrMany)
			}
		}
	}
	right(t, seq(times(500, num(1))...))
	// Ahead of what else is wrong with it, and with its kids.
	for _, c := range []api.Core{num(api.MaxInt + 1), boolean(2), prim("zz"), local(5), quote(api.Datum{})} {
		wrongCore(t, c, wrongOf(c))
		c.Kids = times(1, api.Core{})
		wrongCore(t, c, api.ErrMany)
	}
	for _, c := range []api.Core{lambda(-1, num(1)), setLocal(5, num(1))} {
		wrongCore(t, c, api.ErrRange)
		c.Kids = times(2, api.Core{})
		wrongCore(t, c, api.ErrMany)
	}
	wrongCore(t, seq(num(1), seq(), api.Core{}), api.ErrMany)
}

// wrongOf is what is wrong with one of the nodes that have no kids.
func wrongOf(c api.Core) api.Errno {
	switch c.Kind {
	case api.CPrim:
		return api.ErrName
	case api.CQuote:
		return api.ErrKind
	}
	return api.ErrRange
}

func TestG1NodeAheadOfKids(t *testing.T) {
	wrongCore(t, lambda(api.MaxNodes+1, api.Core{}), api.ErrRange)
	wrongCore(t, setLocal(0, api.Core{}), api.ErrRange)
	wrongCore(t, lambda(1, setLocal(0, api.Core{})), api.ErrKind)
	wrongCore(t, call(prim("zz"), api.Core{}), api.ErrName)
	wrongCore(t, call(num(1), api.Core{}, prim("zz")), api.ErrKind)
	wrongCore(t, choose(num(1), seq(prim("zz")), api.Core{}), api.ErrName)
}

func TestG1Numbers(t *testing.T) {
	for _, n := range []int64{0, 1, -1, api.MaxInt, -api.MaxInt} {
		right(t, num(n))
	}
	for _, n := range []int64{api.MaxInt + 1, -api.MaxInt - 1, 1<<63 - 1, -1 << 63} {
		wrongCore(t, num(n), api.ErrRange)
	}
	right(t, boolean(0))
	right(t, boolean(1))
	for _, n := range []int64{2, -1, 1<<63 - 1, -1 << 63} {
		wrongCore(t, boolean(n), api.ErrRange)
	}
}

func TestG1Locals(t *testing.T) {
	for _, of := range []func(int) api.Core{local, func(i int) api.Core { return setLocal(i, num(1)) }} {
		wrongCore(t, of(0), api.ErrRange)
		wrongCore(t, lambda(0, of(0)), api.ErrRange)
		right(t, lambda(1, of(0)))
		wrongCore(t, lambda(1, of(1)), api.ErrRange)
		for i := range 5 {
			right(t, lambda(2, lambda(0, lambda(3, seq(num(1), of(i))))))
		}
		for _, i := range []int{-1, 5, 6, 1<<63 - 1, -1 << 63} {
			wrongCore(t, lambda(2, lambda(0, lambda(3, seq(num(1), of(i))))), api.ErrRange)
		}
		right(t, lambda(api.MaxNodes, lambda(api.MaxNodes, of(2*api.MaxNodes-1))))
		wrongCore(t, lambda(api.MaxNodes, lambda(api.MaxNodes, of(2*api.MaxNodes))), api.ErrRange)
		// Parameters are around their body alone.
		wrongCore(t, call(lambda(1, local(0)), of(0)), api.ErrRange)
		wrongCore(t, seq(lambda(1, local(0)), lambda(2, of(2))), api.ErrRange)
		wrongCore(t, lambda(1, seq(lambda(1, local(1)), of(1))), api.ErrRange)
	}
	// In what is set, the same ones are around.
	right(t, lambda(1, setLocal(0, local(0))))
	wrongCore(t, lambda(1, setLocal(0, local(1))), api.ErrRange)
}

func TestG1Lambda(t *testing.T) {
	for _, n := range []int{0, 1, api.MaxNodes} {
		right(t, lambda(n, num(1)))
	}
	for _, n := range []int{-1, api.MaxNodes + 1, 1<<63 - 1, -1 << 63} {
		wrongCore(t, lambda(n, num(1)), api.ErrRange)
	}
}

func TestG1Prims(t *testing.T) {
	for _, s := range expand.Prims() {
		right(t, prim(s))
	}
	for _, s := range append(expand.Specials(), "", "zz", "Car", "car ", " car", "cad", "base", "/", ">") {
		wrongCore(t, prim(s), api.ErrName)
	}
}

func TestG1Quote(t *testing.T) {
	for _, d := range []api.Datum{{Kind: api.DNum, N: api.MaxInt}, {Kind: api.DBool, N: 1}, sym("a"), list(), list(sym("a"), list(sym("b")))} {
		right(t, quote(d))
	}
	for _, l := range []struct {
		d    api.Datum
		want api.Errno
	}{
		{api.Datum{}, api.ErrKind}, {api.Datum{Kind: 5}, api.ErrKind}, {api.Datum{Kind: api.DNum, N: api.MaxInt + 1}, api.ErrRange}, {api.Datum{Kind: api.DBool, N: 2}, api.ErrRange},
		{sym("A"), api.ErrName}, {sym("5"), api.ErrName}, {api.Datum{Kind: api.DSym, Name: "a", Stamp: 1}, api.ErrFit}, {api.Datum{Kind: api.DSym, Name: "a", Lib: 1}, api.ErrFit},
		{list(sym("a"), list(api.Datum{})), api.ErrKind},
	} {
		wrongCore(t, quote(l.d), l.want)
		wrongCore(t, quote(list(sym("a"), l.d)), l.want)
	}
	// Each one has as much room as there is.
	full := list(make([]api.Datum, api.MaxNodes-1)...)
	for i := range full.Kids {
		full.Kids[i] = list()
	}
	right(t, seq(quote(full), quote(full)))
	full.Kids = append(full.Kids, sym("a"))
	wrongCore(t, quote(full), api.ErrMuch)
	d := list()
	for range api.MaxDeep - 1 {
		d = list(d)
	}
	right(t, quote(d))
	wrongCore(t, quote(list(d)), api.ErrMuch)
}

// Fields that a kind has not mean nothing.
func TestG1Fields(t *testing.T) {
	for _, c := range kinds() {
		if c.Kind != api.CNum && c.Kind != api.CBool {
			c.N = -1 << 63
		}
		if c.Kind != api.CLocal && c.Kind != api.CSetLocal && c.Kind != api.CLambda {
			c.Index = -7
		}
		if c.Kind != api.CQuote {
			c.Quote = api.Datum{Kind: 77, Stamp: 1}
		}
		if c.Kind != api.CPrim {
			c.Own = "No Name"
		}
		c.Lib = "\x00"
		right(t, lambda(1, c))
	}
}
