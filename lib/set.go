package lib

import "graftwood/api"

// setWords are what sets of another begin with, by their kinds; a library begins with no such word.
var setWords = [...]string{api.SetOnly: "only", api.SetExcept: "except", api.SetPrefix: "prefix", api.SetRename: "rename"}

// set is what stands so deep behind import.
func set(d api.Datum, deep int) api.Set {
	must(deep <= api.MaxSet, api.ErrMuch)
	l := things(d)
	kind := setKind(l)
	if kind == api.SetLib {
		return api.Set{Kind: kind, Name: called(d)}
	}
	s := api.Set{Kind: kind, Kids: []api.Set{set(l[1], deep+1)}}
	rest := l[2:]
	switch kind {
	case api.SetOnly, api.SetExcept:
		s.Names = namesOf(rest)
	case api.SetPrefix:
		s.Prefix = nameOf(one(rest))
	case api.SetRename:
		s.Names, s.As = renames(rest)
	}
	return s
}

// setKind is SetLib of all that is no set of another: a library may be called by those words, too.
func setKind(l []api.Datum) int {
	if len(l) < 2 || l[0].Kind != api.DSym || l[1].Kind != api.DList {
		return api.SetLib
	}
	for kind, word := range setWords {
		if word == l[0].Name {
			return kind
		}
	}
	return api.SetLib
}

func renames(l []api.Datum) (names, as []string) {
	for _, d := range l {
		pair := justNames(d, 2)
		names = append(names, pair[0])
		as = append(as, pair[1])
	}
	return names, as
}
