package natural

// Decimal digits are converted in chunks: 10^9 is the greatest power of 10
// that fits into a limb.
const (
	chunkDigits = 9
	billion     = 1_000_000_000
)

// isDecimal reports whether s is a number in decimal without superfluous
// leading zeros.
func isDecimal(s string) bool {
	if s == "" || len(s) > 1 && s[0] == '0' {
		return false
	}
	for i := range len(s) {
		if s[i] < '0' || s[i] > '9' {
			return false
		}
	}
	return true
}

// chunk returns the number that the digits represent, and 10 to the power of
// their number. There are at most chunkDigits of them.
func chunk(digits string) (uint32, uint32) {
	value, scale := uint32(0), uint32(1)
	for i := range len(digits) {
		value = 10*value + uint32(digits[i]-'0')
		scale *= 10
	}
	return value, scale
}

// scaleAndAdd returns limbs * scale + value in the memory of limbs.
func scaleAndAdd(limbs []uint32, scale, value uint32) []uint32 {
	carry := uint64(value)
	for i, x := range limbs {
		carry += uint64(x) * uint64(scale)
		limbs[i] = uint32(carry)
		carry >>= limbBits
	}
	return append(limbs, uint32(carry))
}

// divideByBillion leaves the quotient of limbs and 10^9 in limbs, and returns
// the remainder.
func divideByBillion(limbs []uint32) uint32 {
	rest := uint64(0)
	for i := len(limbs) - 1; i >= 0; i-- {
		rest = rest<<limbBits | uint64(limbs[i])
		limbs[i] = uint32(rest / billion)
		rest %= billion
	}
	return uint32(rest)
}
