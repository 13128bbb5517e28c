package code

import "graftwood/api"

// scale has met so many procedures, the longest of which has so many instructions.
type scale struct {
	protos, longest int
}

// much is told ahead of making anything: what is quoted may be so long that it should not be copied in vain.
func much(body []api.Core) bool {
	var s scale
	s.proto(s.all(body) + len(body)) // an IPop each
	return s.protos > api.MaxProtos || s.longest > api.MaxCode
}

// proto counts a procedure with so many instructions ahead of its IReturn.
func (s *scale) proto(size int) {
	s.protos++
	s.longest = max(s.longest, size+1)
}

// all is how many instructions l has in all, within the procedure in which it stands.
func (s *scale) all(l []api.Core) int {
	n := 0
	for i := range l {
		n += s.core(&l[i])
	}
	return n
}

func (s *scale) core(c *api.Core) int {
	n := s.all(c.Kids)
	switch c.Kind {
	case api.CLambda:
		s.proto(n)
		return 1
	case api.CIf:
		return n + 2
	case api.CSeq:
		return n + len(c.Kids) - 1
	}
	return n + 1
}
