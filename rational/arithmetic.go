package rational

import (
	"insolvency/api"
	"insolvency/natural"
)

// The functions of this file take natural numbers without leading zero bytes,
// and valid numbers only.

// one is the natural number 1.
const one = "\x01"

// normal reports whether n has no leading zero bytes.
func normal(n string) bool {
	return n == "" || n[0] != 0
}

// magnitude returns the natural number n or -n.
func magnitude(n int64) string {
	if n < 0 {
		// This is right for -2^63 too, which has no positive counterpart.
		return natural.FromUint(-uint64(n))
	}
	return natural.FromUint(uint64(n))
}

// counted returns the valid number that r, which need not be valid, counts as.
func counted(r api.Rat) api.Rat {
	if !Valid(r) {
		return api.Rat{}
	}
	return r
}

// denominator returns the denominator of r, also if it is 1.
func denominator(r api.Rat) string {
	if r.Den == "" {
		return one
	}
	return r.Den
}

// lowest returns num and den without their common divisors. den is not 0.
func lowest(num, den string) (string, string) {
	if den == one {
		return num, den
	}
	divisor := natural.GCD(num, den)
	if divisor == one {
		return num, den
	}
	num, _, _ = natural.Divide(num, divisor)
	den, _, _ = natural.Divide(den, divisor)
	return num, den
}

// signed returns num / den, or its negative if neg is true. num and den have
// no common divisor other than 1.
func signed(neg bool, num, den string) api.Rat {
	if den == one {
		den = ""
	}
	return api.Rat{Neg: neg && num != "", Num: num, Den: den}
}

// negative returns -r.
func negative(r api.Rat) api.Rat {
	return signed(!r.Neg, r.Num, denominator(r))
}

// common returns the numerators of a and b over a common denominator, and
// this denominator.
func common(a, b api.Rat) (string, string, string) {
	if a.Den == b.Den {
		return a.Num, b.Num, denominator(a)
	}
	x := natural.Multiply(a.Num, denominator(b))
	y := natural.Multiply(b.Num, denominator(a))
	return x, y, natural.Multiply(denominator(a), denominator(b))
}

// order returns -1, 0 or 1 if a is less than, equal to or greater than b.
func order(a, b api.Rat) int {
	if a.Neg != b.Neg {
		if a.Neg {
			return -1
		}
		return 1
	}
	x, y, _ := common(a, b)
	if a.Neg {
		return natural.Compare(y, x)
	}
	return natural.Compare(x, y)
}

// sum returns a + b.
func sum(a, b api.Rat) api.Rat {
	x, y, den := common(a, b)
	neg, num := a.Neg, ""
	switch {
	case a.Neg == b.Neg:
		num = natural.Add(x, y)
	case natural.Compare(x, y) >= 0:
		num, _ = natural.Subtract(x, y)
	default:
		neg = b.Neg
		num, _ = natural.Subtract(y, x)
	}
	num, den = lowest(num, den)
	return signed(neg, num, den)
}

// product returns a * b.
func product(a, b api.Rat) api.Rat {
	// Common divisors are sought crosswise, since a and b have none of their
	// own, and the products may be much longer than the factors.
	numA, denB := lowest(a.Num, denominator(b))
	numB, denA := lowest(b.Num, denominator(a))
	return signed(a.Neg != b.Neg, natural.Multiply(numA, numB), natural.Multiply(denA, denB))
}
