package object

import (
	"bytes"

	"graftwood/api"
	"graftwood/text"
)

// more tells, as the highest bit of a byte, that another one of the number follows.
const more = 0x80

// writer is the bytes that a unit is written to.
type writer struct {
	bytes.Buffer
}

// number writes n with its sign as the lowest bit, so that what is near 0 is short.
func (w *writer) number(n int64) {
	bits := uint64(n<<1) ^ uint64(n>>63)
	for bits >= more {
		w.WriteByte(byte(bits) | more)
		bits >>= 7
	}
	w.WriteByte(byte(bits))
}

func (w *writer) count(n int) {
	w.number(int64(n))
}

func (w *writer) text(s string) {
	w.count(len(s))
	w.WriteString(s)
}

// unit writes u, with which nothing is wrong. It stops where there is too much: all of it might be far more than should be kept.
func (w *writer) unit(u api.Unit) api.Errno {
	w.text(u.Name)
	w.count(len(u.Protos))
	for _, p := range u.Protos {
		w.count(p.Args)
		w.count(len(p.Code))
		for i := range p.Code {
			if err := w.ins(&p.Code[i]); err != api.OK {
				return err
			}
		}
	}
	return api.OK
}

func (w *writer) ins(in *api.Ins) api.Errno {
	w.count(in.Op)
	switch layoutOf(in.Op) {
	case withN:
		w.number(in.N)
	case withQuote:
		if err := w.quote(in.Quote); err != api.OK {
			return err
		}
	case withGlobal:
		w.text(in.Lib)
		w.text(in.Own)
	case withOwn:
		w.text(in.Own)
	case withA:
		w.count(in.A)
	}
	return otherwise(w.Len() <= api.MaxBytes, api.ErrMuch)
}

func (w *writer) quote(d api.Datum) api.Errno {
	s, f := text.Print([]api.Datum{d})
	if f.Err != api.OK {
		return f.Err
	}
	w.text(s)
	return api.OK
}
