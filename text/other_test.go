package text_test

import (
	"regexp"
	"strconv"

	"graftwood/api"
)

// otherRead reads as chapter 1 says, by pieces and a stack of what is open, for Read to be held against.
func otherRead(s string) ([]api.Datum, api.Fault) {
	if len(s) > api.MaxText {
		return nil, fault(api.ErrMuch, 0)
	}
	o := other{open: []frame{{}}}
	at := 0
	for at < len(s) {
		piece := pieces.FindString(s[at:])
		if piece == "" {
			piece = s[at : at+1]
		}
		if err := o.take(piece); err != api.OK {
			return nil, fault(err, at)
		}
		at += len(piece)
	}
	if err := o.end(); err != api.OK {
		return nil, fault(err, at)
	}
	return o.open[0].kids, fault(api.OK, 0)
}

var (
	pieces  = regexp.MustCompile(`^([ \t\n]+|;[^\n]*|[()']|#?[a-z0-9!?*+\-/<=>_.]+)`)
	between = regexp.MustCompile(`^([ \t\n]|;)`)
	digits  = regexp.MustCompile(`^-?[0-9]+$`)
	word    = regexp.MustCompile(`^[a-z0-9!?*+\-/<=>_.]+$`)
)

// frame is a list that is open, or what ' began: that takes one datum.
type frame struct {
	quote bool
	kids  []api.Datum
}

type other struct {
	open  []frame
	nodes int
}

func (o *other) top() *frame { return &o.open[len(o.open)-1] }

func (o *other) much(nodes, deep int) bool {
	o.nodes += nodes
	return o.nodes > api.MaxNodes || len(o.open)+deep > api.MaxDeep
}

func (o *other) take(piece string) api.Errno {
	if between.MatchString(piece) {
		return api.OK
	}
	if piece == ")" && len(o.open) > 1 && !o.top().quote {
		o.shut()
		return api.OK
	}
	if piece == "'" {
		if o.much(2, 1) {
			return api.ErrMuch
		}
		o.open = append(o.open, frame{quote: true, kids: data(sym("quote"))})
		return api.OK
	}
	if o.much(1, 0) {
		return api.ErrMuch
	}
	if piece == "(" {
		o.open = append(o.open, frame{})
		return api.OK
	}
	d, err := atom(piece)
	if err == api.OK {
		o.put(d)
	}
	return err
}

func (o *other) put(d api.Datum) {
	o.top().kids = append(o.top().kids, d)
	if o.top().quote {
		o.shut()
	}
}

func (o *other) shut() {
	d := list(o.top().kids...)
	o.open = o.open[:len(o.open)-1]
	o.put(d)
}

func (o *other) end() api.Errno {
	if len(o.open) == 1 {
		return api.OK
	}
	if o.top().quote && o.much(1, 0) {
		return api.ErrMuch
	}
	return api.ErrForm
}

func atom(piece string) (api.Datum, api.Errno) {
	switch {
	case piece == "#t":
		return truth(1), api.OK
	case piece == "#f":
		return truth(0), api.OK
	case digits.MatchString(piece):
		n, err := strconv.Atoi(piece)
		if err != nil || len(piece) > 17 || n > api.MaxInt || n < -api.MaxInt {
			return api.Datum{}, api.ErrRange
		}
		return num(int64(n)), api.OK
	case word.MatchString(piece):
		if len(piece) > api.MaxName {
			return api.Datum{}, api.ErrName
		}
		return sym(piece), api.OK
	}
	return api.Datum{}, api.ErrForm
}
