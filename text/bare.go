package text

import (
	"strings"

	"graftwood/api"
)

// Bare is d as if it had been read: in memory of its own, without stamps, and without what its kind has not. That d has an end must be known.
func Bare(d api.Datum) api.Datum {
	out := api.Datum{Kind: d.Kind}
	switch d.Kind {
	case api.DNum, api.DBool:
		out.N = d.N
	case api.DSym:
		out.Name = strings.Clone(d.Name)
	case api.DList:
		for _, kid := range d.Kids {
			out.Kids = append(out.Kids, Bare(kid))
		}
	}
	return out
}
