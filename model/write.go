package model

import (
	"strconv"
	"strings"

	"graftwood/api"
)

// output is what was put out so far.
type output struct {
	texts []string
}

func (o *output) put(v value) {
	must(len(o.texts) < api.MaxOut, api.RunMuch)
	var w writer
	w.value(v)
	o.texts = append(o.texts, w.String())
}

// writer is a text that a value is written to, and how many nodes of that were come to.
type writer struct {
	strings.Builder
	nodes int
}

// value ends the run, as soon as there are too many nodes: pairs that stand in several places may have more of them than can be gone through.
func (w *writer) value(v value) {
	w.nodes++
	must(w.nodes <= api.MaxShown, api.RunMuch)
	switch v := v.(type) {
	case number:
		w.WriteString(strconv.FormatInt(int64(v), 10))
	case truth:
		w.truth(bool(v))
	case symbol:
		w.WriteString(string(v))
	case nothing:
		w.WriteString("()")
	case *pair:
		w.pair(v)
	default:
		w.WriteString("#p")
	}
}

func (w *writer) truth(is bool) {
	if is {
		w.WriteString("#t")
	} else {
		w.WriteString("#f")
	}
}

func (w *writer) pair(p *pair) {
	w.WriteByte('(')
	first, second := p.values()
	w.value(first)
	for next, ok := second.(*pair); ok; next, ok = second.(*pair) {
		w.WriteByte(' ')
		first, second = next.values()
		w.value(first)
	}
	if second != (nothing{}) {
		w.WriteString(" . ")
		w.value(second)
	}
	w.WriteByte(')')
}
