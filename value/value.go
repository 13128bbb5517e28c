// Package value has what runs are made of, whatever it is that runs: values, parameters, primitives, what is put out, and how a run ends (doc/07-model.md, G2 and G3).
package value

import "graftwood/api"

// Value is a Number, Truth, Symbol, Nothing, *Pair, Primitive, or a pointer to a procedure of whoever runs it: two are the same just if they are equal.
type Value any

type (
	Number    int64
	Truth     bool
	Symbol    string
	Nothing   struct{}
	Primitive string
)

// Pair is two values. Those of a list that was quoted are made only when they are asked for: a run comes to a long list as often as to a short one, and may look at little of it.
type Pair struct {
	first, second Value
	unmade        []api.Datum // the data that it and the pairs behind it are to be made of
}

// values are the same ones whenever they are asked for.
func (p *Pair) values() (first, second Value) {
	if len(p.unmade) > 0 {
		p.first, p.second = Quoted(&p.unmade[0]), listed(p.unmade[1:])
		p.unmade = nil
	}
	return p.first, p.second
}

// Quoted is a datum, with which nothing is wrong, as a value. That may read the datum as long as the run goes on.
func Quoted(d *api.Datum) Value {
	switch d.Kind {
	case api.DNum:
		return Number(d.N)
	case api.DBool:
		return Truth(d.N == 1)
	case api.DSym:
		return Symbol(d.Name)
	}
	return listed(d.Kids)
}

func listed(l []api.Datum) Value {
	if len(l) == 0 {
		return Nothing{}
	}
	return &Pair{unmade: l}
}
