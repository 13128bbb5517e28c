package macro

import "graftwood/api"

// Much tells whether d has too many nodes, or is nested too deep.
func Much(d api.Datum) bool {
	return !(&size{}).holds(d, 1)
}

// size counts nodes, as they are met.
type size struct {
	nodes int
}

// takes counts a node that is so deep: not any more, if that is too much.
func (s *size) takes(deep int) bool {
	s.nodes++
	return s.nodes <= api.MaxNodes && deep <= api.MaxDeep
}

// holds tells whether d is not too much. It ends whatever d is, even if it is among its own kids.
func (s *size) holds(d api.Datum, deep int) bool {
	if !s.takes(deep) {
		return false
	}
	if d.Kind != api.DList {
		return true
	}
	for _, kid := range d.Kids {
		if !s.holds(kid, deep+1) {
			return false
		}
	}
	return true
}
