package model

import "graftwood/api"

// argsOf tells how many arguments the primitive takes that is so called: none do that take none, so that 0 says that there is no such primitive.
func argsOf(own string) int {
	switch own {
	case "car", "cdr", "not", "null?", "out", "pair?":
		return 1
	case "*", "+", "-", "<", "=", "cons", "eq?":
		return 2
	}
	return 0
}

// primitive is the value of p, called with as many arguments as it takes.
func (o *output) primitive(p primitive, args []value) value {
	if p == "out" {
		o.put(args[0])
		return args[0]
	}
	if len(args) == 1 {
		return ofOne(p, args[0])
	}
	return ofTwo(p, args[0], args[1])
}

func ofOne(p primitive, v value) value {
	switch p {
	case "car":
		first, _ := pairOf(v).values()
		return first
	case "cdr":
		_, second := pairOf(v).values()
		return second
	case "null?":
		return truth(v == nothing{})
	case "pair?":
		_, is := v.(*pair)
		return truth(is)
	}
	return truth(v == truth(false))
}

func ofTwo(p primitive, a, b value) value {
	switch p {
	case "cons":
		return &pair{first: a, second: b}
	case "eq?":
		return truth(a == b)
	}
	return ofNumbers(p, numberOf(a), numberOf(b))
}

func ofNumbers(p primitive, a, b int64) value {
	switch p {
	case "<":
		return truth(a < b)
	case "=":
		return truth(a == b)
	case "+":
		return counted(a + b)
	case "-":
		return counted(a - b)
	}
	return product(a, b)
}

func counted(n int64) value {
	must(inRange(n), api.RunRange)
	return number(n)
}

// product looks at the numbers, not at what comes: that may have gone round.
func product(a, b int64) value {
	must(a == 0 || size(b) <= api.MaxInt/size(a), api.RunRange)
	return number(a * b)
}

func size(n int64) int64 {
	return max(n, -n)
}

func pairOf(v value) *pair {
	p, ok := v.(*pair)
	must(ok, api.RunType)
	return p
}

func numberOf(v value) int64 {
	n, ok := v.(number)
	must(ok, api.RunType)
	return int64(n)
}
