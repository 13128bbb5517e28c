package build

import (
	"strings"

	"graftwood/api"
	"graftwood/lib"
	"graftwood/names"
	"graftwood/text"
)

const (
	base    = "base"
	program = "" // what a program is called
)

// library is one of a project, or its program, as Parse tells it, and the name of its source.
type library struct {
	api.Lib
	source string
}

// libraries are those of p, in the order of their sources.
func libraries(p api.Project) []library {
	data := read(p.Sources)
	libs := append(called(data), base)
	ahead := map[string]int{}
	var out []library
	for i, d := range data {
		source := p.Sources[i].Name
		l, err := lib.Parse(p.Files, p.Features, libs, d)
		pass(err, source)
		_, taken := ahead[l.Name]
		must(l.Name != base && !taken, api.ErrFit, source)
		ahead[l.Name] = i
		out = append(out, library{l, source})
	}
	return out
}

// read is the data of sources, one each.
func read(sources []api.File) []api.Datum {
	var out []api.Datum
	for _, s := range sources {
		l, f := text.Read(s.Text)
		pass(f.Err, s.Name)
		must(len(l) == 1, api.ErrForm, s.Name)
		out = append(out, l[0])
	}
	return out
}

// called is what libraries are called, ahead of being taken apart: what is wrong behind that does not matter to those that ask whether there is such a library.
func called(data []api.Datum) []string {
	var out []string
	for _, d := range data {
		l, ok := words(thing(d, 1))
		if word(thing(d, 0)) == "library" && ok && len(l) > 0 {
			out = append(out, strings.Join(l, " "))
		}
	}
	return out
}

// needs is which libraries l's import sets are of. The base is always there.
func (l library) needs() []string {
	var out []string
	for _, s := range l.Imports {
		if name := names.Lib(s); name != base {
			out = append(out, name)
		}
	}
	return out
}
