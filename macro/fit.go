package macro

import "graftwood/api"

// fit holds a pattern against a form. Each variable stands in one place, so that the things it meets are, in their order, what it stands for.
type fit struct {
	lits literals
	met  map[string][]api.Datum
}

func (f fit) list(pattern, l []api.Datum) bool {
	ahead, rest := dotted(pattern)
	if len(l) < len(ahead) || len(l) > len(ahead) && len(rest) == 0 {
		return false
	}
	for i, p := range ahead {
		if !f.thing(p, l[i]) {
			return false
		}
	}
	for _, d := range l[len(ahead):] {
		if !f.thing(rest[0], d) {
			return false
		}
	}
	return true
}

// dotted parts a list of a pattern that is as it must be: what stands for many is rest's only one, and without dots there is none.
func dotted(pattern []api.Datum) (ahead, rest []api.Datum) {
	n := len(pattern)
	if n == 0 || !isDots(pattern[n-1]) {
		return pattern, nil
	}
	return pattern[:n-2], pattern[n-2 : n-1]
}

func (f fit) thing(p, d api.Datum) bool {
	switch p.Kind {
	case api.DSym:
		return f.symbol(p, d)
	case api.DList:
		return d.Kind == api.DList && f.list(p.Kids, d.Kids)
	}
	return p.Kind == d.Kind && p.N == d.N
}

func (f fit) symbol(p, d api.Datum) bool {
	if f.lits.has(p.Name) {
		return d.Kind == api.DSym && d.Name == p.Name
	}
	if f.lits.isVariable(p) {
		f.met[p.Name] = append(f.met[p.Name], d)
	}
	return true
}
