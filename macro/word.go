package macro

import (
	"graftwood/api"
	"graftwood/text"
)

const (
	dots     = "..."
	anything = "_"
)

func isDots(d api.Datum) bool {
	return d.Kind == api.DSym && d.Name == dots
}

func dotsBehind(l []api.Datum, i int) bool {
	return i+1 < len(l) && isDots(l[i+1])
}

// literals are the words that stand for themselves, and how often each is told.
type literals map[string]int

// literalsOf are the words of l; not ok, if one of them may be none.
func literalsOf(l []string) (lits literals, ok bool) {
	lits = literals{}
	for _, s := range l {
		if !text.Named(s) || s == dots || s == anything {
			return nil, false
		}
		lits[s]++
	}
	return lits, true
}

func (l literals) has(name string) bool {
	return l[name] > 0
}

// isVariable tells whether a thing of a pattern is one that stands for something else.
func (l literals) isVariable(d api.Datum) bool {
	return d.Kind == api.DSym && d.Name != dots && d.Name != anything && !l.has(d.Name)
}
