// Package natural is layer 1: it calculates with natural numbers of any
// length. A number is a string: its digits in base 256, the most significant
// byte first. Arguments may have leading zero bytes, results never do; the
// number 0 is the empty string.
package natural

import (
	"cmp"
	"strings"

	"insolvency/api"
)

// Normalize returns n without leading zero bytes.
func Normalize(n string) string {
	zeros := 0
	for zeros < len(n) && n[zeros] == 0 {
		zeros++
	}
	return n[zeros:]
}

// FromUint returns the number u.
func FromUint(u uint64) string {
	return fromLimbs([]uint32{uint32(u), uint32(u >> limbBits)})
}

// Uint returns the number n and true, or 0 and false if n is 2^64 or more.
func Uint(n string) (uint64, bool) {
	n = Normalize(n)
	if len(n) > 8 {
		return 0, false
	}
	u := uint64(0)
	for i := range len(n) {
		u = u<<8 | uint64(n[i])
	}
	return u, true
}

// Compare returns -1, 0 or 1 if a is less than, equal to or greater than b.
func Compare(a, b string) int {
	a, b = Normalize(a), Normalize(b)
	if len(a) != len(b) {
		return cmp.Compare(len(a), len(b))
	}
	return strings.Compare(a, b)
}

// digit returns the digit of n that counts 256^i. It is 0 above the most
// significant digit.
func digit(n string, i int) int {
	if i >= len(n) {
		return 0
	}
	return int(n[len(n)-1-i])
}

// Add returns a + b.
func Add(a, b string) string {
	sum := make([]byte, max(len(a), len(b))+1)
	carry := 0
	for i := range sum {
		carry += digit(a, i) + digit(b, i)
		sum[len(sum)-1-i] = byte(carry)
		carry >>= 8
	}
	return Normalize(string(sum))
}

// Subtract returns a - b and true, or an empty string and false if a is less
// than b.
func Subtract(a, b string) (string, bool) {
	if Compare(a, b) < 0 {
		return "", false
	}
	difference := make([]byte, len(a))
	borrow := 0
	for i := range difference {
		d := digit(a, i) - digit(b, i) - borrow
		borrow = 0
		if d < 0 {
			d += 256
			borrow = 1
		}
		difference[len(difference)-1-i] = byte(d)
	}
	return Normalize(string(difference)), true
}

// Multiply returns a * b.
func Multiply(a, b string) string {
	return fromLimbs(product(toLimbs(a), toLimbs(b)))
}

// Divide returns the quotient a / b rounded down, the remainder, and true. If
// b is 0, it returns two empty strings and false.
func Divide(a, b string) (string, string, bool) {
	divisor := toLimbs(b)
	if len(divisor) == 0 {
		return "", "", false
	}
	quotient, remainder := divide(toLimbs(a), divisor)
	return fromLimbs(quotient), fromLimbs(remainder), true
}

// GCD returns the greatest common divisor of a and b. It is the other number
// if one of them is 0, and 0 if both are.
func GCD(a, b string) string {
	x, y := toLimbs(a), toLimbs(b)
	for len(y) > 0 && (len(x) > 2 || len(y) > 2) {
		_, remainder := divide(x, y)
		x, y = y, remainder
	}
	if len(y) == 0 {
		return fromLimbs(x)
	}
	// Words are much faster than limbs once both numbers are short enough.
	return FromUint(wordGCD(word(x), word(y)))
}

// Parse returns the number that s represents in decimal.
func Parse(s string) (string, api.Errno) {
	if !isDecimal(s) {
		return "", api.ErrNumber
	}
	if len(s) > api.MaxDigits {
		return "", api.ErrLong
	}
	limbs := []uint32{}
	for len(s) > 0 {
		size := min(len(s), chunkDigits)
		value, scale := chunk(s[:size])
		limbs = scaleAndAdd(limbs, scale, value)
		s = s[size:]
	}
	return fromLimbs(limbs), api.OK
}

// Format returns the number n in decimal, without leading zeros.
func Format(n string) string {
	limbs := toLimbs(n)
	// A limb is less than 10^10, and the most significant chunk may begin
	// with zeros.
	text := make([]byte, 10*len(limbs)+chunkDigits)
	first := len(text)
	for len(limbs) > 0 {
		rest := divideByBillion(limbs)
		limbs = trim(limbs)
		for range chunkDigits {
			first--
			text[first] = '0' + byte(rest%10)
			rest /= 10
		}
	}
	digits := strings.TrimLeft(string(text[first:]), "0")
	if digits == "" {
		return "0"
	}
	return digits
}
