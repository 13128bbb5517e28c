package build

import "graftwood/api"

// thing is what a list has at that place: nothing of any kind, if it is no list, or has nothing there.
func thing(d api.Datum, at int) api.Datum {
	if d.Kind != api.DList || at >= len(d.Kids) {
		return api.Datum{}
	}
	return d.Kids[at]
}

// word is the name of a symbol: of anything else none.
func word(d api.Datum) string {
	if d.Kind != api.DSym {
		return ""
	}
	return d.Name
}

// words are the names that a list has; not ok, if it is no list, or has something else.
func words(d api.Datum) (l []string, ok bool) {
	if d.Kind != api.DList {
		return nil, false
	}
	for _, kid := range d.Kids {
		if kid.Kind != api.DSym {
			return nil, false
		}
		l = append(l, kid.Name)
	}
	return l, true
}

// defined is the name that a form of a body defines: empty, if it defines none. What its first word stands for does not matter.
func defined(d api.Datum) string {
	switch word(thing(d, 0)) {
	case "define":
		head := thing(d, 1)
		if head.Kind == api.DList {
			head = thing(head, 0)
		}
		return word(head)
	case "define-syntax":
		return word(thing(d, 1))
	}
	return ""
}

func definesMacro(d api.Datum) bool {
	return defined(d) != "" && d.Kids[0].Name == "define-syntax"
}

// macroOf is what a form defines that defines a macro; not ok, if it is not written so.
func macroOf(d api.Datum) (m api.Macro, ok bool) {
	rules := thing(d, 2)
	if len(d.Kids) != 3 || word(thing(rules, 0)) != "syntax-rules" {
		return api.Macro{}, false
	}
	if m.Lits, ok = words(thing(rules, 1)); !ok {
		return api.Macro{}, false
	}
	for _, r := range rules.Kids[2:] {
		if r.Kind != api.DList || len(r.Kids) != 2 {
			return api.Macro{}, false
		}
		m.Rules = append(m.Rules, api.Rule{Pat: r.Kids[0], Tmpl: r.Kids[1]})
	}
	return m, true
}
