package model_test

import (
	"fmt"
	"math/big"
	"strings"

	"graftwood/api"
	"graftwood/expand"
	"graftwood/text"
)

// otherWrong answers as G1 says, for Wrong to be held against: it lays all nodes out first, so many as matter, and looks at them then.
func otherWrong(l []api.Part) api.Fault {
	if len(l) > api.MaxParts {
		return api.Fault{Err: api.ErrMany}
	}
	for at, p := range l {
		if len(p.Body) > api.MaxBody {
			return api.Fault{Err: api.ErrMany, At: at}
		}
		for _, c := range p.Body {
			for n, s := range laid(c) {
				if err := s.wrong(n); err != api.OK {
					return api.Fault{Err: err, At: at}
				}
			}
		}
	}
	return api.Fault{}
}

// spot is a node, how deep it is, and how many parameters are around.
type spot struct {
	api.Core
	deep, around int
}

// laid is c and all in it, each ahead of its kids, as far as it can be right.
func laid(c api.Core) []spot {
	var out []spot
	for todo := []spot{{c, 1, 0}}; len(todo) > 0 && len(out) <= api.MaxCore; {
		s := todo[len(todo)-1]
		todo = todo[:len(todo)-1]
		out = append(out, s)
		if s.deep > api.MaxNest {
			break
		}
		around := s.around
		if s.Kind == api.CLambda {
			around += s.Index
		}
		for i := len(s.Kids) - 1; i >= 0; i-- {
			todo = append(todo, spot{s.Kids[i], s.deep + 1, around})
		}
	}
	return out
}

// kidsOf is how many kids kinds have: -1 for one at least.
var kidsOf = map[int]int{api.CNum: 0, api.CBool: 0, api.CQuote: 0, api.CLocal: 0, api.CGlobal: 0, api.CPrim: 0, api.CIf: 3, api.CLambda: 1, api.CCall: -1, api.CSetLocal: 1, api.CSetGlobal: 1, api.CSeq: -1, api.CDefine: 1}

func (s spot) wrong(ahead int) api.Errno {
	n, ok := kidsOf[s.Kind]
	between := func(n, low, high int64) bool { return n >= low && n <= high }
	switch {
	case ahead >= api.MaxCore || s.deep > api.MaxNest:
		return api.ErrMuch
	case !ok:
		return api.ErrKind
	case n >= 0 && len(s.Kids) != n || n < 0 && len(s.Kids) == 0:
		return api.ErrMany
	case s.Kind == api.CNum && !between(s.N, -api.MaxInt, api.MaxInt), s.Kind == api.CBool && !between(s.N, 0, 1):
		return api.ErrRange
	case (s.Kind == api.CLocal || s.Kind == api.CSetLocal) && !between(int64(s.Index), 0, int64(s.around)-1), s.Kind == api.CLambda && !between(int64(s.Index), 0, api.MaxNodes):
		return api.ErrRange
	case s.Kind == api.CPrim && !strings.Contains(" "+strings.Join(expand.Prims(), " ")+" ", " "+s.Own+" "):
		return api.ErrName
	case s.Kind == api.CQuote:
		return text.Wrong([]api.Datum{s.Quote}).Err
	}
	return api.OK
}

// thing is a value: what it is, as a word; a pair's or a procedure's number is its own.
type thing struct {
	what     string // num, bool, sym, nil, pair, proc or prim
	n        int64
	name     string
	own      int
	car, cdr *thing
	code     api.Core
	env      *cell
}

// cell is a parameter, and those around it.
type cell struct {
	is  thing
	out *cell
}

// other runs as G2 and G3 say: it makes whole values, hands what ends a run from call to call, and counts with numbers that have no end.
type other struct {
	steps, max, made int
	vars             []struct {
		lib, own string
		is       thing
	}
	out []string
}

func otherRun(l []api.Part, steps int) (api.Result, api.Fault) {
	if f := otherWrong(l); f.Err != api.OK {
		return api.Result{}, f
	}
	if steps < 0 || steps > api.MaxSteps {
		return api.Result{}, api.Fault{Err: api.ErrRange}
	}
	o := &other{max: steps}
	for _, p := range l {
		for _, c := range p.Body {
			if _, how := o.eval(c, nil, 0); how != 0 {
				return api.Result{How: how, Out: o.out}, api.Fault{}
			}
		}
	}
	return api.Result{How: api.RunDone, Out: o.out}, api.Fault{}
}

func (o *other) new() int {
	o.made++
	return o.made
}

func (o *other) quoted(d api.Datum) thing {
	switch d.Kind {
	case api.DNum:
		return thing{what: "num", n: d.N}
	case api.DBool:
		return thing{what: "bool", n: d.N}
	case api.DSym:
		return thing{what: "sym", name: d.Name}
	}
	out := thing{what: "nil"}
	for i := len(d.Kids) - 1; i >= 0; i-- {
		first, rest := o.quoted(d.Kids[i]), out
		out = thing{what: "pair", own: o.new(), car: &first, cdr: &rest}
	}
	return out
}

// find is where a global stands: -1, if nothing is defined.
func (o *other) find(c api.Core) int {
	for i, v := range o.vars {
		if v.lib == c.Lib && v.own == c.Own {
			return i
		}
	}
	return -1
}

func (o *other) eval(c api.Core, env *cell, calls int) (thing, int) {
	if o.steps == o.max {
		return thing{}, api.RunSteps
	}
	o.steps++
	switch c.Kind {
	case api.CNum:
		return thing{what: "num", n: c.N}, 0
	case api.CBool:
		return thing{what: "bool", n: c.N}, 0
	case api.CQuote:
		return o.quoted(c.Quote), 0
	case api.CLocal:
		return past(env, c.Index).is, 0
	case api.CGlobal:
		if at := o.find(c); at >= 0 {
			return o.vars[at].is, 0
		}
		return thing{}, api.RunName
	case api.CPrim:
		return thing{what: "prim", name: c.Own}, 0
	case api.CLambda:
		return thing{what: "proc", own: o.new(), code: c, env: env}, 0
	case api.CIf:
		first, how := o.eval(c.Kids[0], env, calls)
		if how != 0 {
			return thing{}, how
		}
		if first.what == "bool" && first.n == 0 {
			return o.eval(c.Kids[2], env, calls)
		}
		return o.eval(c.Kids[1], env, calls)
	}
	var l []thing
	for _, k := range c.Kids {
		v, how := o.eval(k, env, calls)
		if how != 0 {
			return thing{}, how
		}
		l = append(l, v)
	}
	if c.Kind == api.CCall {
		return o.call(l[0], l[1:], calls)
	}
	return o.set(c, l[len(l)-1], env)
}

func past(env *cell, n int) *cell {
	for range n {
		env = env.out
	}
	return env
}

// set is what of a sequence is nothing more.
func (o *other) set(c api.Core, v thing, env *cell) (thing, int) {
	at := o.find(c)
	switch {
	case c.Kind == api.CSetLocal:
		past(env, c.Index).is = v
	case c.Kind == api.CSetGlobal && at < 0:
		return thing{}, api.RunName
	case c.Kind == api.CSetGlobal || c.Kind == api.CDefine && at >= 0:
		o.vars[at].is = v
	case c.Kind == api.CDefine:
		o.vars = append(o.vars, struct {
			lib, own string
			is       thing
		}{c.Lib, c.Own, v})
	}
	return v, 0
}

func (o *other) call(f thing, args []thing, calls int) (thing, int) {
	switch f.what {
	case "prim":
		return o.prim(f.name, args)
	case "proc":
	default:
		return thing{}, api.RunType
	}
	if len(args) != f.code.Index {
		return thing{}, api.RunArgs
	}
	if calls == api.MaxCalls {
		return thing{}, api.RunMuch
	}
	env := f.env
	for _, a := range args {
		env = &cell{a, env}
	}
	return o.eval(f.code.Kids[0], env, calls+1)
}

// same holds for pairs and procedures just if they were made at once.
func (v thing) same(w thing) bool {
	return v.what == w.what && v.n == w.n && v.name == w.name && v.own == w.own
}

func whether(is bool) (thing, int) {
	if is {
		return thing{what: "bool", n: 1}, 0
	}
	return thing{what: "bool"}, 0
}

func (o *other) prim(name string, args []thing) (thing, int) {
	takes := 2
	if strings.Contains(" car cdr not null? pair? out ", " "+name+" ") {
		takes = 1
	}
	if len(args) != takes {
		return thing{}, api.RunArgs
	}
	a := args[0]
	switch name {
	case "car", "cdr":
		if a.what != "pair" {
			return thing{}, api.RunType
		}
		return map[string]thing{"car": *a.car, "cdr": *a.cdr}[name], 0
	case "not":
		return whether(a.same(thing{what: "bool"}))
	case "null?":
		return whether(a.what == "nil")
	case "pair?":
		return whether(a.what == "pair")
	case "out":
		return o.put(a)
	case "cons":
		return thing{what: "pair", own: o.new(), car: &args[0], cdr: &args[1]}, 0
	case "eq?":
		return whether(a.same(args[1]))
	}
	return numeric(name, a, args[1])
}

func numeric(name string, a, b thing) (thing, int) {
	if a.what != "num" || b.what != "num" {
		return thing{}, api.RunType
	}
	x, y, z := big.NewInt(a.n), big.NewInt(b.n), new(big.Int)
	switch name {
	case "<":
		return whether(x.Cmp(y) < 0)
	case "=":
		return whether(x.Cmp(y) == 0)
	case "+":
		z.Add(x, y)
	case "-":
		z.Sub(x, y)
	case "*":
		z.Mul(x, y)
	}
	if new(big.Int).Abs(z).Cmp(big.NewInt(api.MaxInt)) > 0 {
		return thing{}, api.RunRange
	}
	return thing{what: "num", n: z.Int64()}, 0
}

func (o *other) put(v thing) (thing, int) {
	room := api.MaxShown
	s := v.told(&room)
	if len(o.out) == api.MaxOut || room < 0 {
		return thing{}, api.RunMuch
	}
	o.out = append(o.out, s)
	return v, 0
}

// told is v as a text, while there is room for its nodes.
func (v thing) told(room *int) string {
	if *room--; *room < 0 {
		return ""
	}
	switch v.what {
	case "num":
		return fmt.Sprint(v.n)
	case "bool":
		return []string{"#f", "#t"}[v.n]
	case "sym":
		return v.name
	case "nil":
		return "()"
	case "pair":
		var l []string
		for ; v.what == "pair" && *room >= 0; v = *v.cdr {
			l = append(l, v.car.told(room))
		}
		if v.what != "nil" && *room >= 0 {
			l = append(l, ".", v.told(room))
		}
		return "(" + strings.Join(l, " ") + ")"
	}
	return "#p"
}
