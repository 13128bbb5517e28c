// Package text reads and writes data: see doc/01-text.md.
package text

import "graftwood/api"

// Named tells whether s may be a symbol's name.
func Named(s string) bool {
	if s == "" || len(s) > api.MaxName {
		return false
	}
	return wordAhead(s) == s && !looksLikeNumber(s)
}

// Read tells the data of s, or what is wrong with it first, and at which byte.
func Read(s string) (out []api.Datum, f api.Fault) {
	if len(s) > api.MaxText {
		return nil, api.Fault{Err: api.ErrMuch}
	}
	defer func() {
		if p := recover(); p != nil {
			f = caught(p)
		}
	}()
	r := reader{s: s}
	return r.all(), api.Fault{}
}

// Wrong tells what is wrong with l first, and with which of its data.
func Wrong(l []api.Datum) api.Fault {
	var c checker
	for i, d := range l {
		if err := c.datum(d, 1); err != api.OK {
			return api.Fault{Err: err, At: i}
		}
	}
	return api.Fault{}
}

// Print tells the text of l, a line for each datum, that Read reads as l.
func Print(l []api.Datum) (string, api.Fault) {
	if f := Wrong(l); f.Err != api.OK {
		return "", f
	}
	var w writer
	for _, d := range l {
		w.datum(d)
		w.WriteByte('\n')
	}
	if w.Len() > api.MaxText {
		return "", api.Fault{Err: api.ErrMuch}
	}
	return w.String(), api.Fault{}
}
