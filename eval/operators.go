package eval

import (
	"math/bits"

	"moraine/api"
	"moraine/val"
)

// number is a number's value, cut.
func number(n int) api.Val {
	return api.Val{Kind: api.Num, N: min(max(n, -api.MaxNum), api.MaxNum)}
}

// truth is what a comparison is worth.
func truth(so bool) api.Val {
	if so {
		return number(1)
	}
	return number(0)
}

// operate is what an operator makes of two parts that it takes.
func operate(sign string, a, b api.Val) api.Val {
	switch sign {
	case "&":
		return text(a.S + b.S)
	case "-":
		b.N = -b.N
		fallthrough
	case "+":
		return number(a.N + b.N)
	case "*":
		return number(product(a.N, b.N))
	case "/":
		whole, _ := divide(a.N, b.N)
		return number(whole)
	case "%":
		_, left := divide(a.N, b.N)
		return number(left)
	}
	return truth(holds(sign, val.Compare(a, b)))
}

// product is a product, or, if an int has no room for it, a number with its sign that is cut as it is.
func product(a, b int) int {
	high, low := bits.Mul64(uint64(max(a, -a)), uint64(max(b, -b)))
	if high > 0 || low > api.MaxNum {
		low = api.MaxNum
	}
	if (a < 0) != (b < 0) {
		return -int(low)
	}
	return int(low)
}

// divide is how many times b is in a, and what is left; of 0 both are 0.
func divide(a, b int) (int, int) {
	if b == 0 {
		return 0, 0
	}
	return a / b, a % b
}

// holds says whether two parts stand as a sign says, by how they compare. Each of the six signs denies another one.
func holds(sign string, order int) bool {
	so := true
	switch sign {
	case "<>":
		so = false
		fallthrough
	case "=":
		return (order == 0) == so
	case ">=":
		so = false
		fallthrough
	case "<":
		return (order < 0) == so
	case "<=":
		so = false
		fallthrough
	default:
		return (order > 0) == so
	}
}
