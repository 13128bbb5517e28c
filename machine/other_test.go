package machine_test

import (
	"fmt"
	"math/big"
	"slices"
	"strings"

	"graftwood/api"
	"graftwood/expand"
	"graftwood/text"
)

// otherWrong says what is wrong as K1, I2 and I3 do: it asks of each procedure, from nothing, who makes it, and where each instruction is come from.
func otherWrong(im api.Image) api.Errno {
	if len(im.Globals) > 500 || len(im.Starts) > 40 || len(im.Protos) > 20000 {
		return api.ErrMany
	}
	for i, n := range im.Starts {
		if n < 0 || n >= len(im.Protos) || i > 0 && n <= im.Starts[i-1] {
			return api.ErrRange
		}
	}
	for _, p := range im.Protos {
		if n := len(p.Code); n == 0 || n > 6000 {
			return api.ErrMany
		}
		if p.Args < 0 || p.Args > 2000 {
			return api.ErrRange
		}
	}
	for _, n := range im.Starts {
		if im.Protos[n].Args != 0 {
			return api.ErrRange
		}
	}
	for i, p := range im.Protos {
		isBody := slices.Contains(im.Starts, i)
		if !isBody && len(makers(im, i, i, 0)) == 0 {
			return api.ErrFit
		}
		for j := range p.Code {
			if err := otherIns(im, i, j); err != api.OK {
				return err
			}
		}
		if !otherWell(p.Code, isBody) {
			return api.ErrFit
		}
	}
	return api.OK
}

// makers is the procedures ahead of an instruction, one for each IClosure there that makes the one with that number.
func makers(im api.Image, number, i, j int) []int {
	var out []int
	for k, p := range im.Protos[:i+1] {
		for n, in := range p.Code {
			if in.Op == api.IClosure && in.A == number && (k < i || n < j) {
				out = append(out, k)
			}
		}
	}
	return out
}

// parameters is how many are around procedure i.
func parameters(im api.Image, i int) int {
	if slices.Contains(im.Starts, i) {
		return 0
	}
	return im.Protos[i].Args + parameters(im, makers(im, i, i, 0)[0])
}

func otherIns(im api.Image, i, j int) api.Errno {
	in, n, low, end := im.Protos[i].Code[j], int64(0), int64(0), 0
	switch in.Op {
	case api.INum:
		n, low, end = in.N, -api.MaxInt, api.MaxInt+1
	case api.IBool:
		n, end = in.N, 2
	case api.IQuote:
		return text.Wrong([]api.Datum{in.Quote}).Err
	case api.IPrim:
		if !strings.Contains(" "+strings.Join(expand.Prims(), " ")+" ", " "+in.Own+" ") || in.Own == "" {
			return api.ErrName
		}
		return api.OK
	case api.IPop, api.IReturn:
		return api.OK
	case api.IGlobal, api.ISetGlobal, api.IDefine:
		n, end = int64(in.A), len(im.Globals)
	case api.ILocal, api.ISetLocal:
		n, end = int64(in.A), parameters(im, i)
	case api.IClosure:
		n, low, end = int64(in.A), int64(i)+1, len(im.Protos)
		if n >= low && n < int64(end) && (slices.Contains(im.Starts, in.A) || len(makers(im, in.A, i, j)) > 0) {
			return api.ErrFit
		}
	case api.ICall:
		n, end = int64(in.A), 2001
	case api.IJump, api.IUnless:
		n, end = int64(in.A), len(im.Protos[i].Code)
	default:
		return api.ErrKind
	}
	if n < low || n >= int64(end) {
		return api.ErrRange
	}
	return api.OK
}

// moved is how much higher the stack is behind an instruction, and how much it needs ahead.
func moved(in api.Ins) (more, needs int) {
	switch in.Op {
	case api.ICall:
		return -in.A, in.A + 1
	case api.IUnless, api.IPop:
		return -1, 1
	case api.ISetLocal, api.ISetGlobal, api.IDefine:
		return 0, 1
	case api.IJump, api.IReturn:
		return 0, 0
	}
	return 1, 0
}

// otherWell looks, for each place, at all places that go on to it.
func otherWell(l []api.Ins, isBody bool) bool {
	heights := make([]int, len(l))
	for place, in := range l {
		var from []int
		if place == 0 {
			from = append(from, 0)
		}
		for k, x := range l {
			next := x.Op != api.IReturn && x.Op != api.IJump && k+1 == place
			jump := (x.Op == api.IJump || x.Op == api.IUnless) && x.A == place
			if (next || jump) && k >= place {
				return false
			}
			if next || jump {
				more, _ := moved(x)
				from = append(from, heights[k]+more)
			}
		}
		if len(from) == 0 || slices.Min(from) != slices.Max(from) {
			return false
		}
		heights[place] = from[0]
		if _, needs := moved(in); needs > from[0] {
			return false
		}
		if in.Op == api.IReturn && (from[0] == 0) != isBody || in.Op == api.IReturn && from[0] > 1 {
			return false
		}
	}
	last := l[len(l)-1].Op
	return last == api.IReturn || last == api.IJump
}

// thing is a value: what it is, as a word; a pair's or a procedure's number is its own.
type thing struct {
	what     string // num, bool, sym, nil, pair, proc or prim
	n        int64
	name     string
	own      int
	car, cdr *thing
	proto    api.Proto
	env      *cell
}

// cell is a parameter, and those around it.
type cell struct {
	is  thing
	out *cell
}

// other runs as K2, G2 and G3 say: a procedure by itself, over a stack of its own; it makes whole values, hands what ends a run from call to call, and counts with numbers that have no end.
type other struct {
	im          api.Image
	steps, made int
	vars        map[int]thing
	out         []string
}

func otherRun(im api.Image, steps int) (api.Result, api.Errno) {
	if err := otherWrong(im); err != api.OK {
		return api.Result{}, err
	}
	if steps < 0 || steps > 1000000 {
		return api.Result{}, api.ErrRange
	}
	o := &other{im: im, steps: steps, vars: map[int]thing{}}
	for _, n := range im.Starts {
		if _, how := o.procedure(im.Protos[n], nil, 0); how != 0 {
			return api.Result{How: how, Out: o.out}, api.OK
		}
	}
	return api.Result{How: api.RunDone, Out: o.out}, api.OK
}

func (o *other) new() int {
	o.made++
	return o.made
}

func (o *other) quoted(d api.Datum) thing {
	switch d.Kind {
	case api.DNum:
		return thing{what: "num", n: d.N}
	case api.DBool:
		return thing{what: "bool", n: d.N}
	case api.DSym:
		return thing{what: "sym", name: d.Name}
	}
	out := thing{what: "nil"}
	for i := len(d.Kids) - 1; i >= 0; i-- {
		first, rest := o.quoted(d.Kids[i]), out
		out = thing{what: "pair", own: o.new(), car: &first, cdr: &rest}
	}
	return out
}

// procedure is what lies on top in the end, where calls go on (a body's is nothing).
func (o *other) procedure(p api.Proto, env *cell, calls int) (thing, int) {
	var l []thing
	for at := 0; ; {
		if o.steps == 0 {
			return thing{}, api.RunSteps
		}
		o.steps--
		in := p.Code[at]
		at++
		if in.Op == api.IReturn {
			return append([]thing{{}}, l...)[len(l)], 0
		}
		if in.Op == api.IJump || in.Op == api.IUnless && l[len(l)-1].same(thing{what: "bool"}) {
			at = in.A
		}
		_, needs := moved(in)
		below, on := l[:len(l)-needs], l[len(l)-needs:]
		v, how := o.value(in, on, env, calls)
		if how != 0 {
			return thing{}, how
		}
		l = slices.Clone(below)
		if in.Op != api.IJump && in.Op != api.IUnless && in.Op != api.IPop {
			l = append(l, v)
		}
	}
}

// value is what an instruction makes of those that lie on top.
func (o *other) value(in api.Ins, on []thing, env *cell, calls int) (thing, int) {
	switch in.Op {
	case api.INum:
		return thing{what: "num", n: in.N}, 0
	case api.IBool:
		return thing{what: "bool", n: in.N}, 0
	case api.IQuote:
		return o.quoted(in.Quote), 0
	case api.IPrim:
		return thing{what: "prim", name: in.Own}, 0
	case api.IClosure:
		return thing{what: "proc", own: o.new(), proto: o.im.Protos[in.A], env: env}, 0
	case api.ICall:
		return o.call(on[0], slices.Clone(on[1:]), calls)
	case api.ILocal, api.ISetLocal:
		for range in.A {
			env = env.out
		}
		if in.Op == api.ISetLocal {
			env.is = on[0]
		}
		return env.is, 0
	case api.IGlobal, api.ISetGlobal, api.IDefine:
		if _, ok := o.vars[in.A]; !ok && in.Op != api.IDefine {
			return thing{}, api.RunName
		}
		if in.Op != api.IGlobal {
			o.vars[in.A] = on[0]
		}
		return o.vars[in.A], 0
	}
	return thing{}, 0
}

func (o *other) call(f thing, args []thing, calls int) (thing, int) {
	switch f.what {
	case "prim":
		return o.prim(f.name, args)
	case "proc":
	default:
		return thing{}, api.RunType
	}
	if len(args) != f.proto.Args {
		return thing{}, api.RunArgs
	}
	if calls == 200 {
		return thing{}, api.RunMuch
	}
	env := f.env
	for _, a := range args {
		env = &cell{a, env}
	}
	return o.procedure(f.proto, env, calls+1)
}

// same holds for pairs and procedures just if they were made at once.
func (v thing) same(w thing) bool {
	return v.what == w.what && v.n == w.n && v.name == w.name && v.own == w.own
}

func whether(is bool) (thing, int) {
	if is {
		return thing{what: "bool", n: 1}, 0
	}
	return thing{what: "bool"}, 0
}

func (o *other) prim(name string, args []thing) (thing, int) {
	takes := 2
	if strings.Contains(" car cdr not null? pair? out ", " "+name+" ") {
		takes = 1
	}
	if len(args) != takes {
		return thing{}, api.RunArgs
	}
	a := args[0]
	switch name {
	case "car", "cdr":
		if a.what != "pair" {
			return thing{}, api.RunType
		}
		return map[string]thing{"car": *a.car, "cdr": *a.cdr}[name], 0
	case "not":
		return whether(a.same(thing{what: "bool"}))
	case "null?":
		return whether(a.what == "nil")
	case "pair?":
		return whether(a.what == "pair")
	case "out":
		return o.put(a)
	case "cons":
		return thing{what: "pair", own: o.new(), car: &args[0], cdr: &args[1]}, 0
	case "eq?":
		return whether(a.same(args[1]))
	}
	return numeric(name, a, args[1])
}

func numeric(name string, a, b thing) (thing, int) {
	if a.what != "num" || b.what != "num" {
		return thing{}, api.RunType
	}
	x, y, z := big.NewInt(a.n), big.NewInt(b.n), new(big.Int)
	switch name {
	case "<":
		return whether(x.Cmp(y) < 0)
	case "=":
		return whether(x.Cmp(y) == 0)
	case "+":
		z.Add(x, y)
	case "-":
		z.Sub(x, y)
	case "*":
		z.Mul(x, y)
	}
	if new(big.Int).Abs(z).Cmp(big.NewInt(api.MaxInt)) > 0 {
		return thing{}, api.RunRange
	}
	return thing{what: "num", n: z.Int64()}, 0
}

func (o *other) put(v thing) (thing, int) {
	room := 300
	s := v.told(&room)
	if len(o.out) == 200 || room < 0 {
		return thing{}, api.RunMuch
	}
	o.out = append(o.out, s)
	return v, 0
}

// told is v as a text, while there is room for its nodes.
func (v thing) told(room *int) string {
	if *room--; *room < 0 {
		return ""
	}
	switch v.what {
	case "num":
		return fmt.Sprint(v.n)
	case "bool":
		return []string{"#f", "#t"}[v.n]
	case "sym":
		return v.name
	case "nil":
		return "()"
	case "pair":
		var l []string
		for ; v.what == "pair" && *room >= 0; v = *v.cdr {
			l = append(l, v.car.told(room))
		}
		if v.what != "nil" && *room >= 0 {
			l = append(l, ".", v.told(room))
		}
		return "(" + strings.Join(l, " ") + ")"
	}
	return "#p"
}
