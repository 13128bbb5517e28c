package value

import "graftwood/api"

// Args tells how many arguments the primitive takes that is so called: none do that take none, so that 0 says that there is no such primitive.
func Args(own string) int {
	switch own {
	case "car", "cdr", "not", "null?", "out", "pair?":
		return 1
	case "*", "+", "-", "<", "=", "cons", "eq?":
		return 2
	}
	return 0
}

// InRange tells whether n is a number that there is.
func InRange(n int64) bool {
	return -api.MaxInt <= n && n <= api.MaxInt
}

// Primitive is the value of p, called with args. It keeps nothing of their list.
func (o *Output) Primitive(p Primitive, args []Value) Value {
	Must(len(args) == Args(string(p)), api.RunArgs)
	if p == "out" {
		o.put(args[0])
		return args[0]
	}
	if len(args) == 1 {
		return ofOne(p, args[0])
	}
	return ofTwo(p, args[0], args[1])
}

func ofOne(p Primitive, v Value) Value {
	switch p {
	case "car":
		first, _ := pairOf(v).values()
		return first
	case "cdr":
		_, second := pairOf(v).values()
		return second
	case "null?":
		return Truth(v == Nothing{})
	case "pair?":
		_, is := v.(*Pair)
		return Truth(is)
	}
	return Truth(v == Truth(false))
}

func ofTwo(p Primitive, a, b Value) Value {
	switch p {
	case "cons":
		return &Pair{first: a, second: b}
	case "eq?":
		return Truth(a == b)
	}
	return ofNumbers(p, numberOf(a), numberOf(b))
}

func ofNumbers(p Primitive, a, b int64) Value {
	switch p {
	case "<":
		return Truth(a < b)
	case "=":
		return Truth(a == b)
	case "+":
		return counted(a + b)
	case "-":
		return counted(a - b)
	}
	return product(a, b)
}

func counted(n int64) Value {
	Must(InRange(n), api.RunRange)
	return Number(n)
}

// product looks at the numbers, not at what comes: that may have gone round.
func product(a, b int64) Value {
	Must(a == 0 || size(b) <= api.MaxInt/size(a), api.RunRange)
	return Number(a * b)
}

func size(n int64) int64 {
	return max(n, -n)
}

func pairOf(v Value) *Pair {
	p, ok := v.(*Pair)
	Must(ok, api.RunType)
	return p
}

func numberOf(v Value) int64 {
	n, ok := v.(Number)
	Must(ok, api.RunType)
	return int64(n)
}
