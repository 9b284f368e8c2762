package apportion_test

import (
	"math/big"
	"math/rand"

	"insolvency/api"
)

// The tests calculate with math/big, so that the package is compared with
// calculations that do not use it.

// rat returns the api.Rat of x.
func rat(x *big.Rat) api.Rat {
	r := api.Rat{Neg: x.Sign() < 0, Num: string(x.Num().Bytes())}
	if !x.IsInt() {
		r.Den = string(x.Denom().Bytes())
	}
	return r
}

func rats(list []*big.Rat) []api.Rat {
	out := make([]api.Rat, len(list))
	for i, x := range list {
		out[i] = rat(x)
	}
	return out
}

// over returns the fractions of these numerators over one denominator.
func over(denominator int64, numerators ...int64) []*big.Rat {
	list := []*big.Rat{}
	for _, n := range numerators {
		list = append(list, big.NewRat(n, denominator))
	}
	return list
}

func sum(list []*big.Rat) *big.Rat {
	total := new(big.Rat)
	for _, x := range list {
		total.Add(total, x)
	}
	return total
}

// floor returns x rounded down.
func floor(x *big.Rat) *big.Int {
	return new(big.Int).Div(x.Num(), x.Denom())
}

// part returns the fractional part of x.
func part(x *big.Rat) *big.Rat {
	return new(big.Rat).Sub(x, new(big.Rat).SetInt(floor(x)))
}

// largest returns what P4.1 says, whatever the order of the calculation. The
// sum of the shares is an integer in the range of int64.
func largest(shares []*big.Rat) []int64 {
	results, taken := make([]int64, len(shares)), make([]bool, len(shares))
	left := sum(shares).Num().Int64()
	for i, x := range shares {
		results[i] = floor(x).Int64()
		left -= results[i]
	}
	for range left {
		best := -1
		for i, x := range shares {
			if !taken[i] && (best < 0 || part(x).Cmp(part(shares[best])) > 0) {
				best = i
			}
		}
		taken[best] = true
		results[best]++
	}
	return results
}

// parts returns the shares total * w / W of the weights, whose sum is not 0.
func parts(total int64, weights []*big.Rat) []*big.Rat {
	whole, shares := sum(weights), []*big.Rat{}
	for _, w := range weights {
		share := new(big.Rat).Mul(big.NewRat(total, 1), w)
		shares = append(shares, share.Quo(share, whole))
	}
	return shares
}

// short returns all lists of this size with elements of choice.
func short(size int, choice []*big.Rat) [][]*big.Rat {
	lists := [][]*big.Rat{{}}
	for range size {
		longer := [][]*big.Rat{}
		for _, list := range lists {
			for _, x := range choice {
				longer = append(longer, append(list[:len(list):len(list)], x))
			}
		}
		lists = longer
	}
	return lists
}

// mixed returns lists of different sizes of numbers that are not negative:
// with zeros, integers, equal and different denominators, short and long
// ones. They are the same in every run.
func mixed() [][]*big.Rat {
	source := rand.New(rand.NewSource(4))
	lists := [][]*big.Rat{}
	for n := range 400 {
		list := []*big.Rat{}
		for range 1 + source.Intn(12) {
			list = append(list, number(source, n%4))
		}
		lists = append(lists, list)
	}
	return lists
}

// number returns a number of one of four kinds.
func number(source *rand.Rand, kind int) *big.Rat {
	switch kind {
	case 0:
		return big.NewRat(int64(source.Intn(30)), 6)
	case 1:
		return big.NewRat(int64(source.Intn(100)), int64(1+source.Intn(12)))
	case 2:
		return big.NewRat(source.Int63()>>source.Intn(60), 1+source.Int63n(1<<40))
	default:
		long := new(big.Int).Lsh(big.NewInt(source.Int63()), uint(source.Intn(90)))
		return new(big.Rat).SetFrac(long, new(big.Int).Add(long, big.NewInt(1+source.Int63())))
	}
}

// completed returns list with a further share such that the sum becomes the
// next integer that is greater.
func completed(list []*big.Rat) []*big.Rat {
	missing := new(big.Rat).Sub(big.NewRat(1, 1), part(sum(list)))
	return append(list[:len(list):len(list)], missing)
}
