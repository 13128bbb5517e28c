package names

import (
	"strings"

	"graftwood/api"
	"graftwood/text"
)

// brought is what s brings, in the exports' order. Both were found right: each set of another has one kid.
func brought(s api.Set, exports []string) ([]api.Pair, api.Errno) {
	if s.Kind == api.SetLib {
		return asThemselves(exports), api.OK
	}
	l, err := brought(s.Kids[0], exports)
	if err != api.OK {
		return nil, err
	}
	if s.Kind == api.SetPrefix {
		return prefixed(l, s.Prefix)
	}
	if !allBrought(s.Names, l) {
		return nil, api.ErrNone
	}
	place := places(s.Names)
	asked := func(name string) bool {
		_, ok := place[name]
		return ok
	}
	switch s.Kind {
	case api.SetOnly:
		return kept(l, asked), api.OK
	case api.SetExcept:
		return kept(l, func(name string) bool { return !asked(name) }), api.OK
	}
	return renamed(l, func(name string) string {
		if asked(name) {
			return s.As[place[name]]
		}
		return name
	})
}

func asThemselves(exports []string) []api.Pair {
	var out []api.Pair
	for _, s := range exports {
		out = append(out, api.Pair{Here: strings.Clone(s), There: strings.Clone(s)})
	}
	return out
}

func allBrought(names []string, l []api.Pair) bool {
	here := map[string]int{}
	for i, p := range l {
		here[p.Here] = i
	}
	for _, s := range names {
		if _, ok := here[s]; !ok {
			return false
		}
	}
	return true
}

func kept(l []api.Pair, keep func(string) bool) []api.Pair {
	var out []api.Pair
	for _, p := range l {
		if keep(p.Here) {
			out = append(out, p)
		}
	}
	return out
}

func prefixed(l []api.Pair, prefix string) ([]api.Pair, api.Errno) {
	var out []api.Pair
	for _, p := range l {
		here := prefix + p.Here
		if !text.Named(here) {
			return nil, api.ErrName
		}
		out = append(out, api.Pair{Here: here, There: p.There})
	}
	return out, api.OK
}

func renamed(l []api.Pair, called func(string) string) ([]api.Pair, api.Errno) {
	taken := map[string]int{}
	var out []api.Pair
	for i, p := range l {
		here := called(p.Here)
		if _, ok := taken[here]; ok {
			return nil, api.ErrFit
		}
		taken[here] = i
		out = append(out, api.Pair{Here: strings.Clone(here), There: p.There})
	}
	return out, api.OK
}
