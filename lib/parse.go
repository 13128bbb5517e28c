package lib

import (
	"slices"

	"graftwood/api"
	"graftwood/text"
)

// parser goes through a library from the left, each thing ahead of what is in it, and throws the first error that it meets.
type parser struct {
	files          []api.File
	features, libs []string
	out            api.Lib
}

func (p *parser) all(d api.Datum) api.Lib {
	switch word, rest := form(d); word {
	case "library":
		must(len(rest) > 0, api.ErrForm)
		p.out.Name = called(rest[0])
		p.declarations(rest[1:])
	case "program":
		p.declarations(rest)
	default:
		panic(thrown{api.ErrForm})
	}
	return p.out
}

func (p *parser) declarations(l []api.Datum) {
	for _, d := range l {
		p.declaration(d)
	}
}

func (p *parser) declaration(d api.Datum) {
	switch word, rest := form(d); word {
	case "export":
		p.exports(rest)
	case "import":
		p.imports(rest)
	case "begin":
		p.add(copied(rest))
	case "include":
		p.include(rest)
	case "cond-expand":
		p.declarations(p.taken(rest))
	default:
		panic(thrown{api.ErrForm})
	}
}

// exports are of a library alone: it is called something, and a program is not.
func (p *parser) exports(l []api.Datum) {
	must(p.out.Name != "", api.ErrForm)
	for _, d := range l {
		e := export(d)
		taken := slices.ContainsFunc(p.out.Exports, func(ahead api.Pair) bool { return ahead.Here == e.Here })
		must(!taken, api.ErrFit)
		must(len(p.out.Exports) < api.MaxNames, api.ErrMany)
		p.out.Exports = append(p.out.Exports, e)
	}
}

func export(d api.Datum) api.Pair {
	if d.Kind == api.DSym {
		return api.Pair{Here: nameOf(d), There: nameOf(d)}
	}
	l := justNames(d, 3)
	must(l[0] == "rename", api.ErrForm)
	return api.Pair{Here: l[2], There: l[1]}
}

func (p *parser) imports(l []api.Datum) {
	for _, d := range l {
		must(len(p.out.Imports) < api.MaxImports, api.ErrMany)
		p.out.Imports = append(p.out.Imports, set(d, 1))
	}
}

// add takes data of its own to the body.
func (p *parser) add(l []api.Datum) {
	must(len(p.out.Body)+len(l) <= api.MaxBody, api.ErrMany)
	p.out.Body = append(p.out.Body, l...)
}

func (p *parser) include(l []api.Datum) {
	for _, d := range l {
		data, f := text.Read(p.fileText(nameOf(d)))
		must(f.Err == api.OK, f.Err)
		p.add(data)
	}
}

func (p *parser) fileText(name string) string {
	at := slices.IndexFunc(p.files, func(f api.File) bool { return f.Name == name })
	must(at >= 0, api.ErrNone)
	return p.files[at].Text
}
