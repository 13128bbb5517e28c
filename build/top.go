package build

import (
	"slices"
	"strings"

	"graftwood/api"
	"graftwood/expand"
	"graftwood/names"
)

// top is what each name stands for on a library's top, by Here rising, in whatever order they came.
type top []api.Bind

// place is where a name stands, or would, and whether it does.
func (t top) place(name string) (at int, ok bool) {
	return slices.BinarySearchFunc(t, name, func(b api.Bind, name string) int { return strings.Compare(b.Here, name) })
}

// topOf is what l brings in of what others bring out, and what it defines.
func (b *builder) topOf(l library) top {
	var brought []api.Bind
	for _, s := range l.Imports {
		binds, err := bring(s, b.known[names.Lib(s)].face.out)
		pass(err, l.source)
		brought = append(brought, binds...)
	}
	merged, f := names.Merge(brought)
	pass(f.Err, l.source)
	t := top(merged)
	for _, d := range l.Body {
		if name := defined(d); name != "" {
			at, taken := t.place(name)
			must(!taken, api.ErrFit, l.source)
			must(len(t) < api.MaxNames, api.ErrMany, l.source)
			t = slices.Insert(t, at, api.Bind{Here: name, Lib: l.Name, Own: name})
		}
	}
	return t
}

// bring is what s brings of what its library brings out, and what that stands for there.
func bring(s api.Set, out []api.Bind) ([]api.Bind, api.Errno) {
	there := map[string]api.Bind{}
	var exports []string
	for _, b := range out {
		there[b.Here] = b
		exports = append(exports, b.Here)
	}
	pairs, err := names.Of(s, exports)
	var binds []api.Bind
	for _, p := range pairs {
		b := there[p.There]
		b.Here = p.Here
		binds = append(binds, b)
	}
	return binds, err
}

// baseOut is what the base brings out.
func baseOut() []api.Bind {
	var out []api.Bind
	for _, s := range append(expand.Specials(), expand.Prims()...) {
		out = append(out, api.Bind{Here: s, Lib: base, Own: s})
	}
	return out
}

// outOf is what l, whose top is t, brings out: by the names that others know, what these stand for.
func outOf(l library, t top) []api.Bind {
	var out []api.Bind
	for _, e := range l.Exports {
		at, ok := t.place(e.There)
		must(ok, api.ErrName, l.source)
		b := t[at]
		b.Here = e.Here
		out = append(out, b)
	}
	return out
}
