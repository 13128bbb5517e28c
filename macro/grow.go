package macro

import (
	"slices"
	"strings"

	"graftwood/api"
)

// growth makes of a template what comes of it.
type growth struct {
	size
	vars       variables
	met        map[string][]api.Datum
	stamp, lib int
}

// grown asks of the whole template whether it fits, ahead of how much it makes.
func (g *growth) grown(tmpl api.Datum) (api.Datum, api.Errno) {
	if !g.fits(tmpl) {
		return api.Datum{}, api.ErrFit
	}
	if d, ok := g.thing(tmpl, 0, 1); ok {
		return d, api.OK
	}
	return api.Datum{}, api.ErrMuch
}

// fits tells whether, wherever dots stand, all variables ahead of them stand for like many.
func (g *growth) fits(d api.Datum) bool {
	if d.Kind != api.DList {
		return true
	}
	for thing, dotted := range things(d.Kids) {
		if dotted && !g.alike(thing) || !dotted && !g.fits(thing) {
			return false
		}
	}
	return true
}

func (g *growth) alike(dotted api.Datum) bool {
	l := g.counts(dotted)
	return slices.Min(l) == slices.Max(l)
}

// counts are for how many each variable in d stands that stands for many. Something behind which dots stand has one.
func (g *growth) counts(d api.Datum) []int {
	if g.vars[symbol(d)] == many {
		return []int{len(g.met[d.Name])}
	}
	if d.Kind != api.DList {
		return nil
	}
	var out []int
	for _, kid := range d.Kids {
		out = append(out, g.counts(kid)...)
	}
	return out
}

// thing is what comes of a thing of the template, at the nth ones of the many.
func (g *growth) thing(d api.Datum, nth, deep int) (out api.Datum, ok bool) {
	switch g.vars[symbol(d)] {
	case one:
		return g.copied(g.met[d.Name][0], deep)
	case many:
		return g.copied(g.met[d.Name][nth], deep)
	}
	if !g.takes(deep) {
		return api.Datum{}, false
	}
	if d.Kind == api.DList {
		return g.list(d.Kids, nth, deep)
	}
	out = alone(d)
	if d.Kind == api.DSym {
		out.Stamp, out.Lib = g.stamp, g.lib
	}
	return out, true
}

func (g *growth) list(l []api.Datum, nth, deep int) (api.Datum, bool) {
	out := api.Datum{Kind: api.DList}
	for thing, dotted := range things(l) {
		from, to := nth, nth+1
		if dotted {
			from, to = 0, g.counts(thing)[0]
		}
		for i := from; i < to; i++ {
			kid, ok := g.thing(thing, i, deep+1)
			if !ok {
				return api.Datum{}, false
			}
			out.Kids = append(out.Kids, kid)
		}
	}
	return out, true
}

// copied is what a variable stands for, in memory of its own.
func (g *growth) copied(d api.Datum, deep int) (out api.Datum, ok bool) {
	if !g.takes(deep) {
		return api.Datum{}, false
	}
	out = alone(d)
	if d.Kind != api.DList {
		return out, true
	}
	for _, kid := range d.Kids {
		k, ok := g.copied(kid, deep+1)
		if !ok {
			return api.Datum{}, false
		}
		out.Kids = append(out.Kids, k)
	}
	return out, true
}

// symbol is the name of a symbol: of anything else none.
func symbol(d api.Datum) string {
	if d.Kind == api.DSym {
		return d.Name
	}
	return ""
}

// alone is a node without its kids, and without what its kind has not.
func alone(d api.Datum) api.Datum {
	out := api.Datum{Kind: d.Kind}
	switch d.Kind {
	case api.DNum, api.DBool:
		out.N = d.N
	case api.DSym:
		out.Name, out.Stamp, out.Lib = strings.Clone(d.Name), d.Stamp, d.Lib
	}
	return out
}
