package value

import (
	"strconv"
	"strings"

	"graftwood/api"
)

// Output is what was put out so far.
type Output struct {
	Texts []string
}

func (o *Output) put(v Value) {
	Must(len(o.Texts) < api.MaxOut, api.RunMuch)
	var w writer
	w.value(v)
	o.Texts = append(o.Texts, w.String())
}

// writer is a text that a value is written to, and how many nodes of that were come to.
type writer struct {
	strings.Builder
	nodes int
}

// value ends the run, as soon as there are too many nodes: pairs that stand in several places may have more of them than can be gone through.
func (w *writer) value(v Value) {
	w.nodes++
	Must(w.nodes <= api.MaxShown, api.RunMuch)
	switch v := v.(type) {
	case Number:
		w.WriteString(strconv.FormatInt(int64(v), 10))
	case Truth:
		w.truth(bool(v))
	case Symbol:
		w.WriteString(string(v))
	case Nothing:
		w.WriteString("()")
	case *Pair:
		w.pair(v)
	default:
		w.WriteString("#p")
	}
}

func (w *writer) truth(is bool) {
	if is {
		w.WriteString("#t")
	} else {
		w.WriteString("#f")
	}
}

func (w *writer) pair(p *Pair) {
	w.WriteByte('(')
	first, second := p.values()
	w.value(first)
	for next, ok := second.(*Pair); ok; next, ok = second.(*Pair) {
		w.WriteByte(' ')
		first, second = next.values()
		w.value(first)
	}
	if second != (Nothing{}) {
		w.WriteString(" . ")
		w.value(second)
	}
	w.WriteByte(')')
}
