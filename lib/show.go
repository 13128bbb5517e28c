package lib

import (
	"strings"

	"graftwood/api"
	"graftwood/text"
)

// shown throws where it would not come to an end, or would miss something: no library that Parse told is such.
func shown(l api.Lib) api.Datum {
	imports, body := shownImports(l.Imports), shownBody(l.Body)
	if l.Name == "" {
		return list(symbol("program"), imports, body)
	}
	return list(symbol("library"), shownCall(l.Name), shownExports(l.Exports), imports, body)
}

func symbol(name string) api.Datum {
	return api.Datum{Kind: api.DSym, Name: strings.Clone(name)}
}

func symbols(names []string) []api.Datum {
	var out []api.Datum
	for _, s := range names {
		out = append(out, symbol(s))
	}
	return out
}

func list(first api.Datum, rest ...api.Datum) api.Datum {
	return api.Datum{Kind: api.DList, Kids: append([]api.Datum{first}, rest...)}
}

func shownCall(name string) api.Datum {
	return api.Datum{Kind: api.DList, Kids: symbols(strings.Split(name, " "))}
}

func shownExports(l []api.Pair) api.Datum {
	out := list(symbol("export"))
	for _, e := range l {
		out.Kids = append(out.Kids, shownExport(e))
	}
	return out
}

func shownExport(e api.Pair) api.Datum {
	if e.Here == e.There {
		return symbol(e.Here)
	}
	return list(symbol("rename"), symbol(e.There), symbol(e.Here))
}

func shownImports(l []api.Set) api.Datum {
	out := list(symbol("import"))
	for _, s := range l {
		out.Kids = append(out.Kids, shownSet(s, 1))
	}
	return out
}

func shownSet(s api.Set, deep int) api.Datum {
	must(deep <= api.MaxSet, api.ErrMuch)
	if s.Kind == api.SetLib {
		return shownCall(s.Name)
	}
	must(api.SetOnly <= s.Kind && s.Kind <= api.SetRename, api.ErrKind)
	must(len(s.Kids) == 1, api.ErrMany)
	out := list(symbol(setWords[s.Kind]), shownSet(s.Kids[0], deep+1))
	switch s.Kind {
	case api.SetOnly, api.SetExcept:
		out.Kids = append(out.Kids, symbols(s.Names)...)
	case api.SetPrefix:
		out.Kids = append(out.Kids, symbol(s.Prefix))
	case api.SetRename:
		out.Kids = append(out.Kids, shownRenames(s.Names, s.As)...)
	}
	return out
}

func shownRenames(names, as []string) []api.Datum {
	must(len(names) == len(as), api.ErrMany)
	var out []api.Datum
	for i, s := range names {
		out = append(out, list(symbol(s), symbol(as[i])))
	}
	return out
}

// shownBody asks of each datum by itself: a body of several files may have more nodes than one text.
func shownBody(l []api.Datum) api.Datum {
	for _, d := range l {
		f := text.Wrong([]api.Datum{d})
		must(f.Err == api.OK, f.Err)
	}
	return list(symbol("begin"), copied(l)...)
}
