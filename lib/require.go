package lib

import (
	"slices"

	"graftwood/api"
)

// taken are the declarations of the first clause that is asked for. Of a clause ahead only the requirement is looked at.
func (p *parser) taken(clauses []api.Datum) []api.Datum {
	for _, c := range clauses {
		l := things(c)
		if isWord(l[0], "else") || p.holds(l[0]) {
			return l[1:]
		}
	}
	return nil
}

// holds tells whether a requirement does. Those in it are asked one by one, since what is wrong behind the one that tells is not met.
func (p *parser) holds(d api.Datum) bool {
	if d.Kind == api.DSym {
		return slices.Contains(p.features, d.Name)
	}
	switch word, rest := form(d); word {
	case "library":
		return slices.Contains(p.libs, called(one(rest)))
	case "not":
		return !p.holds(one(rest))
	case "and":
		return !slices.ContainsFunc(rest, func(d api.Datum) bool { return !p.holds(d) })
	case "or":
		return slices.ContainsFunc(rest, func(d api.Datum) bool { return p.holds(d) })
	}
	panic(thrown{api.ErrForm})
}
