package natural

import "math/bits"

// The functions of this file calculate with limbs: digits in base 2^32, the
// least significant one first. The product of two limbs and two more limbs
// fit into 64 bits.

const limbBits = 32

// trim returns limbs without the zeros above the most significant limb.
func trim(limbs []uint32) []uint32 {
	for len(limbs) > 0 && limbs[len(limbs)-1] == 0 {
		limbs = limbs[:len(limbs)-1]
	}
	return limbs
}

// toLimbs returns the limbs of the number n, trimmed.
func toLimbs(n string) []uint32 {
	n = Normalize(n)
	// The place for one more limb lets divide work in this memory.
	limbs := make([]uint32, (len(n)+3)/4, (len(n)+3)/4+1)
	for i := range len(n) {
		limbs[i/4] |= uint32(n[len(n)-1-i]) << (8 * (i % 4))
	}
	return limbs
}

// fromLimbs returns the number with these limbs, which need not be trimmed.
func fromLimbs(limbs []uint32) string {
	limbs = trim(limbs)
	n := make([]byte, 4*len(limbs))
	for i := range n {
		n[len(n)-1-i] = byte(limbs[i/4] >> (8 * (i % 4)))
	}
	return Normalize(string(n))
}

// product returns the product of a and b.
func product(a, b []uint32) []uint32 {
	result := make([]uint32, len(a)+len(b))
	for i, x := range a {
		carry := uint64(0)
		for j, y := range b {
			carry += uint64(x)*uint64(y) + uint64(result[i+j])
			result[i+j] = uint32(carry)
			carry >>= limbBits
		}
		result[i+len(b)] = uint32(carry)
	}
	return result
}

// divide returns the quotient and the remainder, which is trimmed. v is
// trimmed and not 0. The remainder takes the memory of u.
func divide(u, v []uint32) ([]uint32, []uint32) {
	if len(u) < len(v) {
		return nil, trim(u)
	}
	u = append(u, 0)
	quotient := make([]uint32, len(u)-len(v))
	for i := len(quotient) - 1; i >= 0; i-- {
		quotient[i] = divideStep(u[i:i+len(v)+1], v)
	}
	return quotient, trim(u)
}

// divideStep leaves the remainder of u and v in u, and returns the quotient.
// u has one limb more than v and is less than v * 2^32, so that the quotient
// is a single limb.
func divideStep(u, v []uint32) uint32 {
	quotient := estimate(u, v)
	negative := subtractMultiple(u, v, quotient)
	for negative {
		quotient--
		negative = !add(u, v)
	}
	return quotient
}

// estimate returns the quotient of u and v of divideStep, or up to 2 more.
// The estimate is this good because it divides by 32 bits of v of which the
// first one is set (Knuth, volume 2, 4.3.1, theorem B).
func estimate(u, v []uint32) uint32 {
	n := len(v)
	shift := bits.LeadingZeros32(v[n-1])
	lowU, lowV := uint32(0), uint32(0)
	if n > 1 {
		lowU, lowV = u[n-2], v[n-2]
	}
	// The shift loses no bit of u, because u[n] is at most v[n-1].
	topU := (uint64(u[n])<<limbBits|uint64(u[n-1]))<<shift | uint64(lowU)>>(limbBits-shift)
	topV := v[n-1]<<shift | lowV>>(limbBits-shift)
	return uint32(min(topU/uint64(topV), 1<<limbBits-1))
}

// subtractMultiple subtracts v * factor from u, which has one limb more than
// v, modulo the power of 2 that follows u. It reports whether the difference
// is negative.
func subtractMultiple(u, v []uint32, factor uint32) bool {
	carry := uint64(0)
	for i, x := range v {
		carry += uint64(x) * uint64(factor)
		low := uint32(carry)
		carry >>= limbBits
		if u[i] < low {
			carry++
		}
		u[i] -= low
	}
	top := u[len(v)]
	u[len(v)] -= uint32(carry)
	return uint64(top) < carry
}

// add adds v to u, which has one limb more than v, modulo the power of 2 that
// follows u. It reports whether the sum reaches this power.
func add(u, v []uint32) bool {
	carry := uint64(0)
	for i, x := range v {
		carry += uint64(u[i]) + uint64(x)
		u[i] = uint32(carry)
		carry >>= limbBits
	}
	carry += uint64(u[len(v)])
	u[len(v)] = uint32(carry)
	return carry>>limbBits != 0
}

// word returns the number of at most two limbs.
func word(limbs []uint32) uint64 {
	w := uint64(0)
	for i, x := range limbs {
		w |= uint64(x) << (limbBits * i)
	}
	return w
}

// wordGCD returns the greatest common divisor of x and y.
func wordGCD(x, y uint64) uint64 {
	for y > 0 {
		x, y = y, x%y
	}
	return x
}
