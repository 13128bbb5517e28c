package build

import (
	"maps"

	"graftwood/api"
	"graftwood/code"
	"graftwood/expand"
	"graftwood/link"
	"graftwood/macro"
)

// known is what libraries behind one know of it.
type known struct {
	face  face
	needs needed
}

// builder makes a project's units, library by library.
type builder struct {
	shelf    shelf
	scope    api.Scope
	known    map[string]known
	compiled []string
}

// step builds p, and keeps what is compiled for it. What was compiled is told beside an error, too.
func (s shelf) step(p api.Project) api.Step {
	b := builder{shelf: s, known: map[string]known{base: {face: face{out: baseOut()}}}}
	var out api.Step
	out.Err, out.Culprit = attempt(func() { out.Image = b.image(p) })
	out.Compiled = b.compiled
	return out
}

func (b *builder) image(p api.Project) api.Image {
	must(len(p.Sources) <= api.MaxFiles && len(p.Files) <= api.MaxFiles, api.ErrMany, "")
	var units []api.Unit
	for _, l := range ordered(libraries(p)) {
		units = append(units, b.unit(l))
	}
	im, f := link.Link(units)
	pass(f.Err, "")
	return im
}

// unit is l's: one that was made of just the same, or a new one.
func (b *builder) unit(l library) api.Unit {
	needs := b.needed(l)
	b.known[l.Name] = known{b.look(l), needs}
	if u, ok := b.shelf.unit(l.Lib, needs); ok {
		return u
	}
	u := b.compile(l)
	b.shelf[l.Name] = made{l.Lib, needs, u}
	b.compiled = append(b.compiled, l.Name)
	return u
}

func (b *builder) needed(l library) needed {
	out := needed{}
	for _, name := range l.needs() {
		k := b.known[name]
		out[name] = k.face
		maps.Copy(out, k.needs)
	}
	return out
}

// look takes what l has on its top, and its macros, into the scope, and tells what others may see of that.
func (b *builder) look(l library) face {
	t := b.topOf(l)
	out := face{out: outOf(l, t)}
	b.scope.Tops = append(b.scope.Tops, api.Top{Name: l.Name, Binds: t})
	for _, d := range l.Body {
		if !definesMacro(d) {
			continue
		}
		m, ok := macroOf(d)
		must(ok, api.ErrForm, l.source)
		pass(macro.Wrong(m).Err, l.source)
		b.scope.Macros = append(b.scope.Macros, api.Def{Lib: l.Name, Own: defined(d), Macro: m})
		out.top, out.forms = t, append(out.forms, d)
	}
	return out
}

// compile makes a unit of l, whose top is the last one of the scope.
func (b *builder) compile(l library) api.Unit {
	part := api.Part{Name: l.Name}
	for _, d := range l.Body {
		if definesMacro(d) {
			continue
		}
		c, err := expand.Expand(b.scope, len(b.scope.Tops)-1, d)
		pass(err, l.source)
		part.Body = append(part.Body, c)
	}
	u, err := code.Compile(part)
	pass(err, l.source)
	return u
}
