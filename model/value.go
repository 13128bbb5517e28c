package model

import "graftwood/api"

// value is a number, truth, symbol, nothing, *pair, *procedure or primitive: two are the same just if they are equal.
type value any

type (
	number    int64
	truth     bool
	symbol    string
	nothing   struct{}
	primitive string
)

// pair is two values. Those of a list that was quoted are made only when they are asked for: a run comes to a long list as often as to a short one, and may look at little of it.
type pair struct {
	first, second value
	unmade        []api.Datum // the data that it and the pairs behind it are to be made of
}

// values are the same ones whenever they are asked for.
func (p *pair) values() (first, second value) {
	if len(p.unmade) > 0 {
		p.first, p.second = quoted(&p.unmade[0]), listed(p.unmade[1:])
		p.unmade = nil
	}
	return p.first, p.second
}

// quoted is a datum, with which nothing is wrong, as a value.
func quoted(d *api.Datum) value {
	switch d.Kind {
	case api.DNum:
		return number(d.N)
	case api.DBool:
		return truth(d.N == 1)
	case api.DSym:
		return symbol(d.Name)
	}
	return listed(d.Kids)
}

func listed(l []api.Datum) value {
	if len(l) == 0 {
		return nothing{}
	}
	return &pair{unmade: l}
}

// procedure takes so many arguments, and is made where parameters are around.
type procedure struct {
	args   int
	body   *api.Core
	around *frame
}

// frame has the parameters of a call, the last one the nearest, and those around them.
type frame struct {
	params []value
	around *frame
}

// at is where the parameter is kept that so many are nearer than.
func (f *frame) at(nearer int) *value {
	for nearer >= len(f.params) {
		nearer -= len(f.params)
		f = f.around
	}
	return &f.params[len(f.params)-1-nearer]
}
