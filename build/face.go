package build

import (
	"maps"
	"slices"

	"graftwood/api"
)

// face is what others may see of a library. A macro lets them see its library's top: so top and forms are those of a library that defines macros.
type face struct {
	out   []api.Bind
	top   top
	forms []api.Datum // that define macros
}

// needed is all that a library needs, by way of others, too.
type needed map[string]face

// made is what a library was compiled from, and what it was compiled to.
type made struct {
	lib   api.Lib
	needs needed
	unit  api.Unit
}

// shelf is what was made last of libraries, by what they are called.
type shelf map[string]made

// unit is what was made of l and needs; not ok, if what was made last under that name was made of something else.
func (s shelf) unit(l api.Lib, needs needed) (u api.Unit, ok bool) {
	m, ok := s[l.Name]
	if !ok || !sameLib(m.lib, l) || !maps.EqualFunc(m.needs, needs, sameFace) {
		return api.Unit{}, false
	}
	return m.unit, true
}

func sameFace(a, b face) bool {
	return slices.Equal(a.out, b.out) && slices.Equal(a.top, b.top) && slices.EqualFunc(a.forms, b.forms, sameDatum)
}

func sameLib(a, b api.Lib) bool {
	return a.Name == b.Name && slices.Equal(a.Exports, b.Exports) && slices.EqualFunc(a.Imports, b.Imports, sameSet) && slices.EqualFunc(a.Body, b.Body, sameDatum)
}

func sameSet(a, b api.Set) bool {
	return a.Kind == b.Kind && a.Name == b.Name && a.Prefix == b.Prefix &&
		slices.Equal(a.Names, b.Names) && slices.Equal(a.As, b.As) && slices.EqualFunc(a.Kids, b.Kids, sameSet)
}

// sameDatum needs data that were read: they have no stamps.
func sameDatum(a, b api.Datum) bool {
	return a.Kind == b.Kind && a.N == b.N && a.Name == b.Name && slices.EqualFunc(a.Kids, b.Kids, sameDatum)
}
