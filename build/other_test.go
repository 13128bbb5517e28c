package build_test

import (
	"fmt"
	"maps"
	"slices"
	"strings"

	"graftwood/api"
	"graftwood/code"
	"graftwood/expand"
	"graftwood/graph"
	"graftwood/lib"
	"graftwood/link"
	"graftwood/macro"
	"graftwood/names"
	"graftwood/text"
)

// other builds another way: all that is told of a library is a text, and what was compiled is found out when all is built.
type other struct {
	step  api.Step
	parts []api.Part
	keys  []string // of the libraries that were compiled: what they were compiled from
}

// otherLib is a library on its way.
type otherLib struct {
	api.Lib
	source string
	needs  []string // direct ones
	all    []string // by way of others, too; sorted
	out    []api.Bind
	face   string
}

func (o *other) fail(err api.Errno, culprit string) bool {
	o.step.Err, o.step.Culprit = err, culprit
	return err != api.OK
}

func otherBuild(p api.Project) *other {
	o := &other{}
	if len(p.Sources) > 30 || len(p.Files) > 30 {
		o.fail(api.ErrMany, "")
		return o
	}
	libs := o.parsed(p)
	if o.step.Err != api.OK {
		return o
	}
	order := o.ordered(libs)
	var scope api.Scope
	var units []api.Unit
	for _, name := range order {
		u, ok := o.unit(libs, name, &scope)
		if !ok {
			return o
		}
		units = append(units, u)
	}
	if o.step.Err != api.OK {
		return o
	}
	im, f := link.Link(units)
	o.step.Image = im
	o.fail(f.Err, "")
	return o
}

// parsed is all libraries by what they are called.
func (o *other) parsed(p api.Project) map[string]*otherLib {
	var data []api.Datum
	known := []string{"base"}
	for _, s := range p.Sources {
		l, f := text.Read(s.Text)
		if o.fail(f.Err, s.Name) {
			return nil
		}
		if len(l) != 1 {
			o.fail(api.ErrForm, s.Name)
			return nil
		}
		data = append(data, l[0])
		line, _ := text.Print(l)
		if rest, ok := strings.CutPrefix(line, "(library ("); ok {
			name, _, _ := strings.Cut(rest, ")")
			known = append(known, name)
		}
	}
	libs := map[string]*otherLib{}
	for i, d := range data {
		l, err := lib.Parse(p.Files, p.Features, known, d)
		if o.fail(err, p.Sources[i].Name) {
			return nil
		}
		if libs[l.Name] != nil || l.Name == "base" {
			o.fail(api.ErrFit, p.Sources[i].Name)
			return nil
		}
		x := &otherLib{Lib: l, source: p.Sources[i].Name}
		for _, s := range l.Imports {
			if n := names.Lib(s); n != "base" {
				x.needs = append(x.needs, n)
			}
		}
		libs[l.Name] = x
	}
	o.fail(api.OK, "")
	return libs
}

func (o *other) ordered(libs map[string]*otherLib) []string {
	var nodes []api.Node
	for _, name := range slices.Sorted(maps.Keys(libs)) {
		if name != "" {
			nodes = append(nodes, api.Node{Name: name, Needs: libs[name].needs})
		}
	}
	order, who, err := graph.Order(nodes)
	if err != api.OK {
		o.fail(err, libs[who].source)
		return nil
	}
	if libs[""] == nil {
		o.fail(api.ErrNone, "")
		return nil
	}
	for _, n := range libs[""].needs {
		if libs[n] == nil {
			o.fail(api.ErrNone, libs[""].source)
			return nil
		}
	}
	return append(order, "")
}

// unit is that of the library, and whether there is one.
func (o *other) unit(libs map[string]*otherLib, name string, scope *api.Scope) (api.Unit, bool) {
	l := libs[name]
	top, err := l.top(libs)
	if o.fail(err, l.source) {
		return api.Unit{}, false
	}
	binds := []api.Bind{}
	for _, here := range slices.Sorted(maps.Keys(top)) {
		binds = append(binds, top[here])
	}
	scope.Tops = append(scope.Tops, api.Top{Name: name, Binds: binds})
	for _, e := range l.Exports {
		b, ok := top[e.There]
		if !ok {
			o.fail(api.ErrName, l.source)
			return api.Unit{}, false
		}
		l.out = append(l.out, api.Bind{Here: e.Here, Lib: b.Lib, Own: b.Own})
	}
	l.face = fmt.Sprint(l.out)
	var macros, rest []api.Datum
	for _, d := range l.Body {
		if word, _ := otherDefined(d); word == "define-syntax" {
			macros = append(macros, d)
		} else {
			rest = append(rest, d)
		}
	}
	if len(macros) > 0 {
		l.face += fmt.Sprint(binds, macros)
	}
	for _, d := range macros {
		m, err := otherMacro(d)
		if o.fail(err, l.source) {
			return api.Unit{}, false
		}
		scope.Macros = append(scope.Macros, api.Def{Lib: name, Own: d.Kids[1].Name, Macro: m})
	}
	part := api.Part{Name: name}
	for _, d := range rest {
		c, err := expand.Expand(*scope, len(scope.Tops)-1, d)
		if o.fail(err, l.source) {
			return api.Unit{}, false
		}
		part.Body = append(part.Body, c)
	}
	u, err := code.Compile(part)
	if o.fail(err, l.source) {
		return api.Unit{}, false
	}
	o.step.Compiled = append(o.step.Compiled, name)
	o.parts = append(o.parts, part)
	o.keys = append(o.keys, l.key(libs))
	return u, true
}

// key is what l is compiled from.
func (l *otherLib) key(libs map[string]*otherLib) string {
	met := map[string]bool{}
	for _, n := range l.needs {
		met[n] = true
		for _, far := range libs[n].all {
			met[far] = true
		}
	}
	l.all = slices.Sorted(maps.Keys(met))
	out := fmt.Sprint(l.Lib)
	for _, n := range l.all {
		out += "\n" + n + ": " + libs[n].face
	}
	return out
}

func (l *otherLib) top(libs map[string]*otherLib) (map[string]api.Bind, api.Errno) {
	var all []api.Bind
	for _, s := range l.Imports {
		var out []api.Bind
		if from := libs[names.Lib(s)]; from != nil {
			out = from.out
		} else {
			for _, w := range strings.Fields("begin define define-syntax if lambda let quote set! * + - < = car cdr cons eq? not null? out pair?") {
				out = append(out, api.Bind{Here: w, Lib: "base", Own: w})
			}
		}
		var exports []string
		for _, b := range out {
			exports = append(exports, b.Here)
		}
		pairs, err := names.Of(s, exports)
		if err != api.OK {
			return nil, err
		}
		for _, p := range pairs {
			b := out[slices.Index(exports, p.There)]
			all = append(all, api.Bind{Here: p.Here, Lib: b.Lib, Own: b.Own})
		}
	}
	merged, f := names.Merge(all)
	if f.Err != api.OK {
		return nil, f.Err
	}
	top := map[string]api.Bind{}
	for _, b := range merged {
		top[b.Here] = b
	}
	for _, d := range l.Body {
		word, name := otherDefined(d)
		if word == "" {
			continue
		}
		if _, ok := top[name]; ok {
			return nil, api.ErrFit
		}
		if len(top) == 200 {
			return nil, api.ErrMany
		}
		top[name] = api.Bind{Here: name, Lib: l.Name, Own: name}
	}
	return top, api.OK
}

// otherDefined is by which word a form defines which name.
func otherDefined(d api.Datum) (word, name string) {
	if d.Kind != api.DList || len(d.Kids) < 2 || d.Kids[0].Kind != api.DSym {
		return "", ""
	}
	word, what := d.Kids[0].Name, d.Kids[1]
	if word == "define" && what.Kind == api.DList && len(what.Kids) > 0 {
		what = what.Kids[0]
	}
	if (word == "define" || word == "define-syntax") && what.Kind == api.DSym {
		return word, what.Name
	}
	return "", ""
}

func otherMacro(d api.Datum) (m api.Macro, err api.Errno) {
	if len(d.Kids) != 3 || len(d.Kids[2].Kids) < 2 {
		return m, api.ErrForm
	}
	l := d.Kids[2].Kids
	if l[0].Name != "syntax-rules" || l[1].Kind != api.DList {
		return m, api.ErrForm
	}
	for _, k := range l[1].Kids {
		if k.Kind != api.DSym {
			return m, api.ErrForm
		}
		m.Lits = append(m.Lits, k.Name)
	}
	for _, r := range l[2:] {
		if len(r.Kids) != 2 {
			return m, api.ErrForm
		}
		m.Rules = append(m.Rules, api.Rule{Pat: r.Kids[0], Tmpl: r.Kids[1]})
	}
	return m, macro.Wrong(m).Err
}

// otherPlay tells of all projects what was compiled anew: that whose key is not the last one under its name.
func otherPlay(l []*other) []string {
	last := map[string]string{}
	var out []string
	for _, o := range l {
		var anew []string
		for i, name := range o.step.Compiled {
			if key, ok := last[name]; !ok || key != o.keys[i] {
				anew = append(anew, name)
				last[name] = o.keys[i]
			}
		}
		out = append(out, bracketed(anew))
	}
	return out
}
