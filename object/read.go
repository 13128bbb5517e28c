package object

import (
	"graftwood/api"
	"graftwood/text"
)

// maxNumber is how many bytes a number has at most: the last one of them holds the last one of 64 bits.
const maxNumber = 10

// reader goes through bytes once. As soon as they are not what a writer writes, it is bad, and stays so; what it reads then is of no matter.
type reader struct {
	left []byte
	bad  bool
}

func (r *reader) number() int64 {
	var bits uint64
	for i, b := range r.left {
		if i == maxNumber-1 && b > 1 {
			break
		}
		bits |= uint64(b&^more) << (7 * i)
		if b < more {
			// Nothing in the highest place: fewer bytes would do.
			r.bad = r.bad || b == 0 && i > 0
			r.left = r.left[i+1:]
			return int64(bits>>1) ^ -int64(bits&1)
		}
	}
	r.bad = true
	return 0
}

// count reads how many things, or bytes, come. Each thing has a byte at least, so that no room is made for what can't be there.
func (r *reader) count() int {
	n := r.number()
	if r.bad || n < 0 || n > int64(len(r.left)) {
		r.bad = true
		return 0
	}
	return int(n)
}

// text has bytes of its own.
func (r *reader) text() string {
	n := r.count()
	s := string(r.left[:n])
	r.left = r.left[n:]
	return s
}

func (r *reader) unit() api.Unit {
	u := api.Unit{Name: r.text()}
	for range r.count() {
		u.Protos = append(u.Protos, r.proto())
		if r.bad {
			break
		}
	}
	return u
}

func (r *reader) proto() api.Proto {
	p := api.Proto{Args: int(r.number())}
	for range r.count() {
		p.Code = append(p.Code, r.ins())
		if r.bad {
			break
		}
	}
	return p
}

func (r *reader) ins() api.Ins {
	in := api.Ins{Op: int(r.number())}
	switch layoutOf(in.Op) {
	case noKind:
		r.bad = true
	case withN:
		in.N = r.number()
	case withQuote:
		in.Quote = r.quote()
	case withGlobal:
		in.Lib = r.text()
		in.Own = r.text()
	case withOwn:
		in.Own = r.text()
	case withA:
		in.A = int(r.number())
	}
	return in
}

// quote takes only what Print would have written: a datum may be written in many ways, but a unit has its bytes in one.
func (r *reader) quote() api.Datum {
	s := r.text()
	l, _ := text.Read(s)
	if again, _ := text.Print(l); len(l) != 1 || again != s {
		r.bad = true
		return api.Datum{}
	}
	return l[0]
}
