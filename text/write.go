package text

import (
	"strconv"
	"strings"

	"graftwood/api"
)

// writer is a text that data are written to.
type writer struct {
	strings.Builder
}

// datum writes d, with which nothing is wrong.
func (w *writer) datum(d api.Datum) {
	switch d.Kind {
	case api.DNum:
		w.WriteString(strconv.FormatInt(d.N, 10))
	case api.DBool:
		w.truth(d.N == 1)
	case api.DSym:
		w.WriteString(d.Name)
	case api.DList:
		w.list(d.Kids)
	}
}

func (w *writer) truth(is bool) {
	if is {
		w.WriteString("#t")
	} else {
		w.WriteString("#f")
	}
}

func (w *writer) list(kids []api.Datum) {
	w.WriteByte('(')
	for i, kid := range kids {
		if i > 0 {
			w.WriteByte(' ')
		}
		w.datum(kid)
	}
	w.WriteByte(')')
}
