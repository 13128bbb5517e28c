package text

import (
	"strconv"
	"strings"

	"graftwood/api"
)

// maxNumber is how many letters a number has at most, its sign among them.
const maxNumber = 17

// thrown is a fault on its way from where a reader met it to the edge of the package.
type thrown struct {
	api.Fault
}

// caught is the fault that was thrown. Any other panic is a mistake in this package, and to take it for an answer would hide it.
func caught(p any) api.Fault {
	t, ok := p.(thrown)
	if !ok {
		panic(p)
	}
	return t.Fault
}

// reader goes through a text once, from the left, and throws the first fault that it meets.
type reader struct {
	s     string
	at    int
	nodes int
}

// fault is what is wrong right here: a reader only moves on from what is right.
func (r *reader) fault(err api.Errno) thrown {
	return thrown{Fault: api.Fault{Err: err, At: r.at}}
}

func (r *reader) ended() bool {
	return r.at == len(r.s)
}

// skip leaves blanks and comments behind.
func (r *reader) skip() {
	for !r.ended() {
		switch r.s[r.at] {
		case ' ', '\t', '\n':
			r.at++
		case ';':
			r.skipComment()
		default:
			return
		}
	}
}

func (r *reader) skipComment() {
	n := strings.IndexByte(r.s[r.at:], '\n')
	if n < 0 {
		n = len(r.s) - r.at
	}
	r.at += n
}

// all reads the data of the whole text.
func (r *reader) all() []api.Datum {
	var out []api.Datum
	for r.skip(); !r.ended(); r.skip() {
		out = append(out, r.datum(1))
	}
	return out
}

// count has one node more, that is so deep.
func (r *reader) count(deep int) {
	r.nodes++
	if r.nodes > api.MaxNodes || deep > api.MaxDeep {
		panic(r.fault(api.ErrMuch))
	}
}

// datum reads what must be a datum. It is counted ahead of being looked at, since too much comes ahead of what is wrongly written.
func (r *reader) datum(deep int) api.Datum {
	r.count(deep)
	if r.ended() {
		panic(r.fault(api.ErrForm))
	}
	switch c := r.s[r.at]; {
	case c == '(':
		return r.list(deep)
	case c == '\'':
		return r.quote(deep)
	case c == '#':
		return r.truth()
	case letter(c):
		return r.word()
	}
	panic(r.fault(api.ErrForm))
}

func (r *reader) list(deep int) api.Datum {
	r.at++
	var kids []api.Datum
	for r.skip(); !r.ended(); r.skip() {
		if r.s[r.at] == ')' {
			r.at++
			return api.Datum{Kind: api.DList, Kids: kids}
		}
		kids = append(kids, r.datum(deep+1))
	}
	panic(r.fault(api.ErrForm))
}

// quote reads what stands for a list. The symbol in it is written nowhere, so that it is counted where the list is.
func (r *reader) quote(deep int) api.Datum {
	r.count(deep + 1)
	r.at++
	r.skip()
	symbol := api.Datum{Kind: api.DSym, Name: "quote"}
	return api.Datum{Kind: api.DList, Kids: []api.Datum{symbol, r.datum(deep + 1)}}
}

// truth reads t or f as a word, since no letter may stand behind it.
func (r *reader) truth() api.Datum {
	d := api.Datum{Kind: api.DBool}
	switch wordAhead(r.s[r.at+1:]) {
	case "t":
		d.N = 1
	case "f":
		d.N = 0
	default:
		panic(r.fault(api.ErrForm))
	}
	r.at += 2
	return d
}

func (r *reader) word() api.Datum {
	w := wordAhead(r.s[r.at:])
	var d api.Datum
	if looksLikeNumber(w) {
		d = r.number(w)
	} else {
		d = r.symbol(w)
	}
	r.at += len(w)
	return d
}

func (r *reader) number(w string) api.Datum {
	if len(w) > maxNumber {
		panic(r.fault(api.ErrRange))
	}
	n, err := strconv.ParseInt(w, 10, 64)
	if err != nil || !inRange(n) {
		panic(r.fault(api.ErrRange))
	}
	return api.Datum{Kind: api.DNum, N: n}
}

// symbol has a name of its own, so that it does not hold the whole text that it was read from.
func (r *reader) symbol(w string) api.Datum {
	if len(w) > api.MaxName {
		panic(r.fault(api.ErrName))
	}
	return api.Datum{Kind: api.DSym, Name: strings.Clone(w)}
}
