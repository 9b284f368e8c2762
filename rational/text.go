package rational

import (
	"strings"

	"insolvency/api"
	"insolvency/natural"
)

// maxPlaces is the greatest number of decimal places of Decimal.
const maxPlaces = 20

// Parse returns the number that s represents: an integer, a decimal number or
// a quotient of two integers, with an optional - before it.
func Parse(s string) (api.Rat, api.Errno) {
	s, neg := strings.CutPrefix(s, "-")
	if num, den, ok := strings.Cut(s, "/"); ok {
		return parseQuotient(neg, num, den)
	}
	if whole, places, ok := strings.Cut(s, "."); ok {
		return parseDecimal(neg, whole, places)
	}
	return parseQuotient(neg, s, "1")
}

// parseQuotient returns the quotient of two integers.
func parseQuotient(neg bool, numerator, denominator string) (api.Rat, api.Errno) {
	num, e1 := natural.Parse(numerator)
	den, e2 := natural.Parse(denominator)
	if e := first(e1, e2); e != api.OK {
		return api.Rat{}, e
	}
	r, ok := Make(neg, num, den)
	if !ok {
		return api.Rat{}, api.ErrRange
	}
	return r, api.OK
}

// parseDecimal returns the number with the integer whole before the point and
// the digits places after it.
func parseDecimal(neg bool, whole, places string) (api.Rat, api.Errno) {
	integer, e1 := natural.Parse(whole)
	fraction, e2 := parseDigits(places)
	if e := first(e1, e2); e != api.OK {
		return api.Rat{}, e
	}
	scale := powerOfTen(len(places))
	num := natural.Add(natural.Multiply(integer, scale), fraction)
	r, _ := Make(neg, num, scale)
	return r, api.OK
}

// parseDigits returns the number with these digits, of which there is at
// least one. They may begin with 0.
func parseDigits(digits string) (string, api.Errno) {
	if digits == "" {
		return "", api.ErrNumber
	}
	n, e := "", api.OK
	if significant := strings.TrimLeft(digits, "0"); significant != "" {
		n, e = natural.Parse(significant)
	}
	if e == api.OK && len(digits) > api.MaxDigits {
		return "", api.ErrLong
	}
	return n, e
}

// first returns the error that comes first of those of two integers. A wrong
// form comes before a length, wherever it is.
func first(e1, e2 api.Errno) api.Errno {
	if e1 == api.OK || e2 == api.ErrNumber {
		return e2
	}
	return e1
}

// powerOfTen returns 10 to the power of exponent, which is not negative.
func powerOfTen(exponent int) string {
	if exponent == 0 {
		return one
	}
	root := powerOfTen(exponent / 2)
	power := natural.Multiply(root, root)
	if exponent%2 == 1 {
		power = natural.Multiply(power, "\x0a")
	}
	return power
}

// Format returns the number in the form n or n/d, with - before it if it is
// negative.
func Format(r api.Rat) string {
	r = counted(r)
	text := natural.Format(r.Num)
	if r.Den != "" {
		text += "/" + natural.Format(r.Den)
	}
	if r.Neg {
		return "-" + text
	}
	return text
}

// Decimal returns the number rounded toward 0 to the given number of decimal
// places, with exactly that many digits after the point.
func Decimal(r api.Rat, places int) string {
	r = counted(r)
	places = min(max(places, 0), maxPlaces)
	scaled, _, _ := natural.Divide(natural.Multiply(r.Num, powerOfTen(places)), denominator(r))
	text := natural.Format(scaled)
	if missing := places + 1 - len(text); missing > 0 {
		text = strings.Repeat("0", missing) + text
	}
	if places > 0 {
		point := len(text) - places
		text = text[:point] + "." + text[point:]
	}
	if r.Neg && scaled != "" {
		return "-" + text
	}
	return text
}
