package macro_test

import (
	"math/rand"
	"slices"
	"testing"

	"graftwood/api"
	"graftwood/macro"
	"graftwood/text"
)

// other answers as chapter 5 says, for Wrong and Use to be held against: it takes rules apart first, into trees of what each thing is.
type other struct {
	lits []string
	vars map[string]bool // whether they stand for many
	errs []api.Errno     // from the left
}

func (o *other) wrong(m api.Macro) api.Fault {
	if max(len(m.Rules), len(m.Lits)) > api.MaxRules {
		return api.Fault{Err: api.ErrMany}
	}
	for _, s := range m.Lits {
		if !text.Named(s) || s == "..." || s == "_" {
			return api.Fault{Err: api.ErrName}
		}
	}
	for i, r := range m.Rules {
		if f := text.Wrong([]api.Datum{r.Pat, r.Tmpl}); f.Err != api.OK {
			return api.Fault{Err: f.Err, At: i}
		}
		if err := o.rule(m.Lits, r); err != api.OK {
			return api.Fault{Err: err, At: i}
		}
	}
	return api.Fault{}
}

func (o *other) rule(lits []string, r api.Rule) api.Errno {
	*o = other{lits: lits, vars: map[string]bool{}}
	if r.Pat.Kind != api.DList || len(r.Pat.Kids) == 0 || r.Pat.Kids[0].Kind != api.DSym || otherDots(r.Pat.Kids[0]) {
		return api.ErrForm
	}
	o.pattern(list(r.Pat.Kids[1:]...), false)
	o.template(list(r.Tmpl), 0)
	if len(o.errs) > 0 {
		return o.errs[0]
	}
	return api.OK
}

func otherDots(d api.Datum) bool { return d.Kind == api.DSym && d.Name == "..." }

func (o *other) pattern(d api.Datum, many bool) {
	if d.Kind == api.DSym && d.Name != "_" && !slices.Contains(o.lits, d.Name) {
		if _, twice := o.vars[d.Name]; twice {
			o.errs = append(o.errs, api.ErrName)
		}
		o.vars[d.Name] = many
	}
	if d.Kind != api.DList {
		return
	}
	for i, k := range d.Kids {
		before := i > 0 && otherDots(d.Kids[i-1])
		after := i+1 < len(d.Kids) && otherDots(d.Kids[i+1])
		switch {
		case otherDots(k):
			if i == 0 || before || i+1 < len(d.Kids) {
				o.errs = append(o.errs, api.ErrForm)
			}
			continue
		case after && many:
			o.errs = append(o.errs, api.ErrForm)
		}
		o.pattern(k, many || after)
	}
}

// template tells how many variables that stand for many a list has in it; dots is how many dots stand behind what it is in.
func (o *other) template(d api.Datum, dots int) (n int) {
	for i := 0; i < len(d.Kids); i++ {
		k, here := d.Kids[i], dots
		if i+1 < len(d.Kids) && otherDots(d.Kids[i+1]) {
			here++
			i++
		}
		some := 0
		switch k.Kind {
		case api.DSym:
			if o.vars[k.Name] {
				some = 1
			}
			if otherDots(k) || some > 0 && here == 0 {
				o.errs = append(o.errs, api.ErrForm)
			}
		case api.DList:
			some = o.template(k, here)
		}
		if here > 1 || here > dots && some == 0 {
			o.errs = append(o.errs, api.ErrForm)
		}
		n += some
	}
	return n
}

// env is what variables stand for: one thing, or an env for each of the many.
type env struct {
	ones  map[string]api.Datum
	lists []struct {
		names []string
		envs  []env
	}
}

func (o *other) use(m api.Macro, form api.Datum, stamp, lib int) (api.Datum, api.Errno) {
	if f := o.wrong(m); f.Err != api.OK {
		return api.Datum{}, f.Err
	}
	if otherMuch(form) {
		return api.Datum{}, api.ErrMuch
	}
	if form.Kind != api.DList || len(form.Kids) == 0 {
		return api.Datum{}, api.ErrForm
	}
	for _, r := range m.Rules {
		o.rule(m.Lits, r)
		e := env{ones: map[string]api.Datum{}}
		if !o.match(&e, list(r.Pat.Kids[1:]...), list(form.Kids[1:]...)) {
			continue
		}
		out, fits := o.fill(e, r.Tmpl, stamp, lib)
		if !fits {
			return api.Datum{}, api.ErrFit
		}
		if otherMuch(out) {
			return api.Datum{}, api.ErrMuch
		}
		return out, api.OK
	}
	return api.Datum{}, api.ErrNone
}

// otherMuch goes through d level by level.
func otherMuch(d api.Datum) bool {
	n, deep := 0, 0
	for level := []api.Datum{d}; len(level) > 0; deep++ {
		n += len(level)
		if n > api.MaxNodes || deep >= api.MaxDeep {
			return true
		}
		var next []api.Datum
		for _, d := range level {
			if d.Kind == api.DList {
				next = append(next, d.Kids...)
			}
		}
		level = next
	}
	return false
}

func (o *other) names(d api.Datum) (out []string) {
	if _, is := o.vars[d.Name]; is && d.Kind == api.DSym {
		return []string{d.Name}
	}
	if d.Kind == api.DList {
		for _, k := range d.Kids {
			out = append(out, o.names(k)...)
		}
	}
	return out
}

func (o *other) match(e *env, p, d api.Datum) bool {
	_, variable := o.vars[p.Name]
	switch {
	case p.Kind == api.DSym && variable:
		e.ones[p.Name] = d
		return true
	case p.Kind == api.DSym:
		return p.Name == "_" || d.Kind == api.DSym && d.Name == p.Name
	case p.Kind != api.DList || d.Kind != api.DList:
		return d.Kind == p.Kind && d.N == p.N
	}
	i := 0
	for j, k := range p.Kids {
		if j+1 < len(p.Kids) && otherDots(p.Kids[j+1]) {
			var envs []env
			for ; i < len(d.Kids); i++ {
				inner := env{ones: map[string]api.Datum{}}
				if !o.match(&inner, k, d.Kids[i]) {
					return false
				}
				envs = append(envs, inner)
			}
			e.lists = append(e.lists, struct {
				names []string
				envs  []env
			}{o.names(k), envs})
			return true
		}
		if i == len(d.Kids) || !o.match(e, k, d.Kids[i]) {
			return false
		}
		i++
	}
	return i == len(d.Kids)
}

func (o *other) fill(e env, d api.Datum, stamp, lib int) (api.Datum, bool) {
	one, is := e.ones[d.Name]
	switch {
	case d.Kind == api.DSym && is:
		return bare(one), true
	case d.Kind == api.DSym:
		return api.Datum{Kind: api.DSym, Name: d.Name, Stamp: stamp, Lib: lib}, true
	case d.Kind != api.DList:
		return bare(d), true
	}
	out, all := list(), true
	for i, k := range d.Kids {
		if otherDots(k) {
			continue
		}
		envs := []env{e}
		if i+1 < len(d.Kids) && otherDots(d.Kids[i+1]) {
			envs = o.each(e, o.names(k))
			all = all && envs != nil
		}
		for _, e := range envs {
			got, fits := o.fill(e, k, stamp, lib)
			all = all && fits
			out.Kids = append(out.Kids, got)
		}
	}
	return out, all
}

// each is e with the first ones, the second ones, and so on; nil, if they are unlike.
func (o *other) each(e env, names []string) []env {
	out, n := []env{}, -1
	for _, l := range e.lists {
		if !slices.ContainsFunc(l.names, func(s string) bool { return slices.Contains(names, s) }) {
			continue
		}
		if n >= 0 && n != len(l.envs) {
			return nil
		}
		n = len(l.envs)
		for i, inner := range l.envs {
			if i == len(out) {
				out = append(out, env{ones: map[string]api.Datum{}})
				for s, d := range e.ones {
					out[i].ones[s] = d
				}
			}
			for s, d := range inner.ones {
				out[i].ones[s] = d
			}
		}
	}
	return out
}

// bare is d without what its kinds have not.
func bare(d api.Datum) api.Datum {
	out := api.Datum{Kind: d.Kind}
	switch d.Kind {
	case api.DNum, api.DBool:
		out.N = d.N
	case api.DSym:
		out.Name, out.Stamp, out.Lib = d.Name, d.Stamp, d.Lib
	case api.DList:
		for _, k := range d.Kids {
			out.Kids = append(out.Kids, bare(k))
		}
	}
	return out
}

// chance makes macros, and forms that may fit them.
type chance struct {
	*rand.Rand
	odd int // one of so many things is odd
}

func (c chance) datum(words []string, deep int) api.Datum {
	if c.Intn(c.odd) == 0 {
		return api.Datum{Kind: c.Intn(6), N: c.Int63n(3), Name: "a", Stamp: c.Intn(2), Kids: []api.Datum{sym("...")}}
	}
	switch n := c.Intn(10); {
	case n == 0:
		return num(c.Int63n(3))
	case n == 1:
		return api.Datum{Kind: api.DBool, N: c.Int63n(2)}
	case n < 7 || deep == 0:
		return sym(words[c.Intn(len(words))])
	}
	d := list()
	for range c.Intn(4) {
		d.Kids = append(d.Kids, c.datum(words, deep-1))
	}
	if c.Intn(3) == 0 {
		d.Kids = append(d.Kids, sym("..."))
	}
	return d
}

func (c chance) macro() api.Macro {
	m := api.Macro{Lits: []string{"=>", "q"}[:c.Intn(3)]}
	for range 1 + c.Intn(3) {
		words := []string{"a", "b", "c", "d", "e", "f", "g", "_", "=>", "q"}
		pat := list(sym("m"))
		for range c.Intn(4) {
			pat.Kids = append(pat.Kids, c.datum(words, 2))
		}
		if c.Intn(3) == 0 {
			pat.Kids = append(pat.Kids, sym("..."))
		}
		m.Rules = append(m.Rules, api.Rule{Pat: pat, Tmpl: c.datum(append(words, "..."), 3)})
	}
	return m
}

// form is one that the pattern p fits, but for what chance does to it.
func (c chance) form(lits []string, p api.Datum) api.Datum {
	if c.Intn(30) == 0 {
		return c.datum([]string{"x", "y", "q", "=>"}, 2)
	}
	switch {
	case p.Kind == api.DSym && slices.Contains(lits, p.Name):
		return sym(p.Name)
	case p.Kind == api.DSym:
		return c.datum([]string{"x", "y", "q", "=>", "..."}, 1)
	case p.Kind != api.DList:
		return p
	}
	d := list()
	for i, k := range p.Kids {
		n := 1
		if i+1 < len(p.Kids) && otherDots(p.Kids[i+1]) {
			n = c.Intn(3)
		}
		for range n {
			if !otherDots(k) {
				d.Kids = append(d.Kids, c.form(lits, k))
			}
		}
	}
	return d
}

func TestE4AsOther(t *testing.T) {
	c := chance{rand.New(rand.NewSource(7)), 60}
	met := map[api.Errno]int{}
	for range 300000 {
		m := c.macro()
		o := &other{}
		want := o.wrong(m)
		if f := macro.Wrong(m); f != want {
			t.Fatalf("Wrong(%v) is %v, not %v", m, f, want)
		}
		if want.Err != api.OK && c.Intn(20) > 0 {
			continue
		}
		form := c.form(m.Lits, m.Rules[c.Intn(len(m.Rules))].Pat)
		d, err := macro.Use(m, form, stamp, lib)
		wd, werr := o.use(m, form, stamp, lib)
		if err != werr || !same(d, wd) {
			t.Fatalf("Use(%v, %v) is %v %v, not %v %v", m, form, d, err, wd, werr)
		}
		met[err]++
	}
	for _, e := range []api.Errno{api.OK, api.ErrKind, api.ErrForm, api.ErrNone, api.ErrName, api.ErrFit} {
		if met[e] < 100 {
			t.Errorf("%v came %d times", e, met[e])
		}
	}
}

// Rules in which hardly anything but variables and dots stands: what is met first is told.
func TestE2AsOther(t *testing.T) {
	c := chance{rand.New(rand.NewSource(8)), 1 << 30}
	met := map[api.Errno]int{}
	for range 200000 {
		words := []string{"a", "b", "c", "...", "_", "=>"}
		m := api.Macro{Lits: []string{"=>"}, Rules: []api.Rule{{Pat: list(sym("m"), c.datum(words, 4), c.datum(words, 4)), Tmpl: c.datum(words, 3)}}}
		want := (&other{}).wrong(m)
		if f := macro.Wrong(m); f != want {
			t.Fatalf("Wrong(%v) is %v, not %v", m, f, want)
		}
		met[want.Err]++
	}
	for _, e := range []api.Errno{api.OK, api.ErrForm, api.ErrName} {
		if met[e] < 1000 {
			t.Errorf("%v came %d times", e, met[e])
		}
	}
}
