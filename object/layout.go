package object

import "graftwood/api"

// layout is which fields of an instruction stand behind its kind, as bytes.
type layout int

const (
	noKind layout = iota // there is no such kind
	alone
	withN
	withQuote
	withGlobal
	withOwn
	withA
)

// layoutOf is told to who writes and to who reads, so that both have the same fields.
func layoutOf(op int) layout {
	switch op {
	case api.IPop, api.IReturn:
		return alone
	case api.INum, api.IBool:
		return withN
	case api.IQuote:
		return withQuote
	case api.IGlobal, api.ISetGlobal, api.IDefine:
		return withGlobal
	case api.IPrim:
		return withOwn
	case api.ILocal, api.ISetLocal, api.IClosure, api.ICall, api.IJump, api.IUnless:
		return withA
	}
	return noKind
}
