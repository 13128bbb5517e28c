package machine

import "graftwood/value"

// stack is values, the last one on top. What is taken off it lies there: procedures use their stack well.
type stack []value.Value

func (s *stack) push(v value.Value) {
	*s = append(*s, v)
}

func (s stack) top() value.Value {
	return s[len(s)-1]
}

func (s *stack) pop() value.Value {
	v := s.top()
	s.take(1)
	return v
}

// take is what n values are that lie on top, the last one on top: they go, and the next one that comes takes their place.
func (s *stack) take(n int) []value.Value {
	rest := len(*s) - n
	l := (*s)[rest:]
	*s = (*s)[:rest]
	return l
}
