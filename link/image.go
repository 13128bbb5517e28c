package link

import (
	"strings"

	"graftwood/api"
	"graftwood/text"
)

// image is made of units that are right, and all of whose globals are in the table.
func (t *table) image(l []api.Unit) api.Image {
	im := api.Image{Globals: t.binds}
	for _, u := range l {
		start := len(im.Protos)
		im.Starts = append(im.Starts, start)
		for _, p := range u.Protos {
			code := make([]api.Ins, len(p.Code))
			for i := range p.Code {
				code[i] = t.placed(&p.Code[i], start)
			}
			im.Protos = append(im.Protos, api.Proto{Args: p.Args, Code: code})
		}
	}
	return im
}

// placed is an instruction, in memory of its own, of a unit whose first procedure has the number start in the image. Jumps stay as they are: their places are within a procedure.
func (t *table) placed(in *api.Ins, start int) api.Ins {
	out := api.Ins{Op: in.Op}
	switch in.Op {
	case api.INum, api.IBool:
		out.N = in.N
	case api.IQuote:
		out.Quote = text.Bare(in.Quote)
	case api.IGlobal, api.ISetGlobal, api.IDefine:
		out.A = t.numbers[globalOf(in)]
	case api.IPrim:
		out.Own = strings.Clone(in.Own)
	case api.IClosure:
		out.A = start + in.A
	case api.ILocal, api.ISetLocal, api.ICall, api.IJump, api.IUnless:
		out.A = in.A
	}
	return out
}
