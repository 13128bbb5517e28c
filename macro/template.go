package macro

import (
	"iter"
	"slices"

	"graftwood/api"
)

// things goes through a list of a template: each thing, and whether dots stand behind it. Those dots are no thing, but other dots are.
func things(l []api.Datum) iter.Seq2[api.Datum, bool] {
	return func(yield func(api.Datum, bool) bool) {
		for i := 0; i < len(l); i++ {
			dotted := dotsBehind(l, i)
			if !yield(l[i], dotted) {
				return
			}
			if dotted {
				i++
			}
		}
	}
}

// right tells whether a thing of a template is as it must be, where it stands within something behind which dots stand, or does not.
func (v variables) right(d api.Datum, within bool) bool {
	switch d.Kind {
	case api.DSym:
		return !isDots(d) && (within || v[d.Name] != many)
	case api.DList:
		for thing, dotted := range things(d.Kids) {
			if dotted && (within || !v.hasMany(thing)) || !v.right(thing, within || dotted) {
				return false
			}
		}
	}
	return true
}

// hasMany tells whether d is, or has in it, a variable that stands for many.
func (v variables) hasMany(d api.Datum) bool {
	switch d.Kind {
	case api.DSym:
		return v[d.Name] == many
	case api.DList:
		return slices.ContainsFunc(d.Kids, v.hasMany)
	}
	return false
}
