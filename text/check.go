package text

import "graftwood/api"

func inRange(n int64) bool {
	return -api.MaxInt <= n && n <= api.MaxInt
}

// checker has gone through so many nodes, of all data that it was given.
type checker struct {
	nodes int
}

// datum ends whatever d is, even if it is among its own kids: it goes no deeper than MaxDeep, and to no more than MaxNodes.
func (c *checker) datum(d api.Datum, deep int) api.Errno {
	c.nodes++
	if c.nodes > api.MaxNodes || deep > api.MaxDeep {
		return api.ErrMuch
	}
	if err := wrongAlone(d); err != api.OK || d.Kind != api.DList {
		return err
	}
	for _, kid := range d.Kids {
		if err := c.datum(kid, deep+1); err != api.OK {
			return err
		}
	}
	return api.OK
}

// wrongAlone is what is wrong with a node, whatever its kids are.
func wrongAlone(d api.Datum) api.Errno {
	switch d.Kind {
	case api.DNum:
		if !inRange(d.N) {
			return api.ErrRange
		}
	case api.DBool:
		if d.N != 0 && d.N != 1 {
			return api.ErrRange
		}
	case api.DSym:
		return wrongSymbol(d)
	case api.DList:
	default:
		return api.ErrKind
	}
	return api.OK
}

func wrongSymbol(d api.Datum) api.Errno {
	if !Named(d.Name) {
		return api.ErrName
	}
	if d.Stamp != 0 || d.Lib != 0 {
		return api.ErrFit
	}
	return api.OK
}
