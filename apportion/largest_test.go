package apportion_test

import (
	"math"
	"math/big"
	"slices"
	"testing"

	"insolvency/api"
	"insolvency/apportion"
)

// checkLargest compares the result with the definition, and with P4.3.
func checkLargest(t *testing.T, shares []*big.Rat) {
	t.Helper()
	got, e := apportion.Largest(rats(shares))
	if want := largest(shares); e != api.OK || !slices.Equal(got, want) {
		t.Errorf("P4.1: Largest of %v: %v, %d, want %v", shares, got, e, want)
	}
	checkProperties(t, "Largest", shares, got)
}

// checkProperties reports an error unless results are as P4.3 says, and have
// the sum of the shares.
func checkProperties(t *testing.T, name string, shares []*big.Rat, results []int64) {
	t.Helper()
	if len(results) != len(shares) {
		t.Errorf("P4.1: %s of %v: %d results", name, shares, len(results))
		return
	}
	total := new(big.Rat)
	for i, n := range results {
		result := big.NewRat(n, 1)
		total.Add(total, result)
		difference := new(big.Rat).Sub(result, shares[i])
		if difference.Abs(difference).Cmp(big.NewRat(1, 1)) >= 0 {
			t.Errorf("P4.3: %s of %v: %d instead of %v", name, shares, n, shares[i])
		}
		if shares[i].IsInt() && difference.Sign() != 0 {
			t.Errorf("P4.3: %s of %v: the integer %v becomes %d", name, shares, shares[i], n)
		}
		for j, m := range results {
			if shares[i].Cmp(shares[j]) >= 0 && (i < j && n < m || n < m-1) {
				t.Errorf("P4.3: %s of %v: %d and %d for %v and %v", name, shares, n, m, shares[i], shares[j])
			}
		}
	}
	if total.Cmp(sum(shares)) != 0 {
		t.Errorf("P4.1: %s of %v: the sum becomes %v", name, shares, total)
	}
}

func TestLargestOfKnownShares(t *testing.T) {
	for _, x := range []struct {
		shares []*big.Rat
		want   []int64
	}{
		{over(1), []int64{}},
		{over(1, 0), []int64{0}},
		{over(1, 7), []int64{7}},
		{over(1, 3, 0, 5), []int64{3, 0, 5}},
		{over(2, 1, 1), []int64{1, 0}},
		{over(2, 5, 1), []int64{3, 0}},
		{over(2, 1, 5), []int64{1, 2}},
		{over(2, 1, 4, 1), []int64{1, 2, 0}},
		{over(2, 1, 1, 1, 1), []int64{1, 1, 0, 0}},
		{over(3, 1, 1, 1), []int64{1, 0, 0}},
		{over(3, 1, 2), []int64{0, 1}},
		{over(3, 2, 1), []int64{1, 0}},
		{over(3, 2, 2, 2), []int64{1, 1, 0}},
		{over(3, 2, 5, 8), []int64{1, 2, 2}},
		{over(5, 1, 4, 3, 2), []int64{0, 1, 1, 0}},
		{over(10, 19, 1, 10), []int64{2, 0, 1}},
		{over(100, 3333, 3334, 3333), []int64{33, 34, 33}},
		{[]*big.Rat{big.NewRat(1, 2), big.NewRat(1, 3), big.NewRat(1, 6)}, []int64{1, 0, 0}},
		{[]*big.Rat{big.NewRat(1, 6), big.NewRat(1, 3), big.NewRat(1, 2)}, []int64{0, 0, 1}},
		{[]*big.Rat{big.NewRat(1, 2), big.NewRat(3, 4), big.NewRat(3, 4)}, []int64{0, 1, 1}},
	} {
		if got, e := apportion.Largest(rats(x.shares)); e != api.OK || !slices.Equal(got, x.want) {
			t.Errorf("P4.1: Largest of %v: %v, %d, want %v", x.shares, got, e, x.want)
		}
	}
	if got, e := apportion.Largest(nil); e != api.OK || len(got) != 0 {
		t.Errorf("P4.1: Largest of nil: %v, %d", got, e)
	}
}

func TestLargestOfShortLists(t *testing.T) {
	choice := over(12, 0, 3, 4, 6, 8, 9, 12, 13, 18, 24)
	for size := range 5 {
		for _, shares := range short(size, choice) {
			if sum(shares).IsInt() {
				checkLargest(t, shares)
				continue
			}
			if got, e := apportion.Largest(rats(shares)); e != api.ErrSum || len(got) != 0 {
				t.Errorf("P4.1: Largest of %v: %v, %d", shares, got, e)
			}
		}
	}
}

func TestLargestOfMixedLists(t *testing.T) {
	for _, list := range mixed() {
		shares := completed(list)
		if sum(shares).Num().IsInt64() {
			checkLargest(t, shares)
			slices.Reverse(shares)
			checkLargest(t, shares)
		}
	}
}

// Fractional parts count, not the shares, however long the parts are.
func TestLargestOfNearlyEqualParts(t *testing.T) {
	tiny := new(big.Rat).SetFrac(big.NewInt(1), new(big.Int).Exp(big.NewInt(10), big.NewInt(300), nil))
	half := big.NewRat(1, 2)
	more, less := new(big.Rat).Add(half, tiny), new(big.Rat).Sub(half, tiny)
	great := new(big.Rat).Add(less, big.NewRat(1<<40, 1))
	for _, shares := range [][]*big.Rat{{less, more}, {more, less}, {half, less, more}, {great, more}, {great, more, half}, {less, half, half, more}} {
		shares = append(shares, part(new(big.Rat).Neg(sum(shares))))
		checkLargest(t, shares)
	}
	if got, e := apportion.Largest(rats([]*big.Rat{great, more})); e != api.OK || !slices.Equal(got, []int64{1 << 40, 1}) {
		t.Errorf("P4.1: Largest of nearly equal parts: %v, %d", got, e)
	}
}

// power returns 2^n + add.
func power(n uint, add int64) *big.Rat {
	return new(big.Rat).SetInt(new(big.Int).Add(new(big.Int).Lsh(big.NewInt(1), n), big.NewInt(add)))
}

func TestGreatestSum(t *testing.T) {
	half := big.NewRat(1, 2)
	top := power(63, -1)
	for _, x := range []struct {
		shares []*big.Rat
		want   []int64
	}{
		{[]*big.Rat{top}, []int64{math.MaxInt64}},
		{[]*big.Rat{top, new(big.Rat)}, []int64{math.MaxInt64, 0}},
		{[]*big.Rat{new(big.Rat).Sub(top, half), half}, []int64{math.MaxInt64, 0}},
		{[]*big.Rat{half, new(big.Rat).Sub(top, half)}, []int64{1, math.MaxInt64 - 1}},
		{[]*big.Rat{power(62, 0), power(62, -1)}, []int64{1 << 62, 1<<62 - 1}},
	} {
		if got, e := apportion.Largest(rats(x.shares)); e != api.OK || !slices.Equal(got, x.want) {
			t.Errorf("P4.1: Largest of %v: %v, %d, want %v", x.shares, got, e, x.want)
		}
	}
	for _, shares := range [][]*big.Rat{
		{power(63, 0)}, {power(63, 5)}, {power(64, -1)}, {power(64, 0)}, {power(64, 1)}, {power(65, 3)}, {power(128, 7)}, {power(6000, 1)},
		{top, big.NewRat(1, 1)}, {big.NewRat(1, 1), top}, {power(62, 0), power(62, 0)}, {top, top}, {top, top, big.NewRat(3, 1)},
		{top, half, half}, {new(big.Rat).Sub(power(63, 0), half), half}, {top, half},
	} {
		if got, e := apportion.Largest(rats(shares)); e != api.ErrSum || len(got) != 0 {
			t.Errorf("P4.1: Largest of %v: %v, %d", shares, got, e)
		}
	}
}

func TestLargestErrors(t *testing.T) {
	minus := big.NewRat(-1, 1)
	zeros := over(1, make([]int64, 1024)...)
	for _, x := range []struct {
		name   string
		shares []*big.Rat
		want   api.Errno
	}{
		{"a fraction", over(2, 1), api.ErrSum},
		{"a fraction that is nearly an integer", []*big.Rat{new(big.Rat).Quo(power(400, -1), power(400, 0))}, api.ErrSum},
		{"fractions", over(3, 1, 1), api.ErrSum},
		{"an integer and a fraction", over(3, 6, 1), api.ErrSum},
		{"a negative integer", over(1, -1), api.ErrNegative},
		{"a negative fraction", over(2, -1), api.ErrNegative},
		{"a negative share among others", over(1, 5, -1, 5), api.ErrNegative},
		{"a negative share at the end", over(2, 1, 2, 1, -2), api.ErrNegative},
		{"a negative share with the sum 0", over(2, 1, -1), api.ErrNegative},
		{"a negative share and a fraction", over(2, 1, -2), api.ErrNegative},
		{"a negative share and a sum that is too great", []*big.Rat{power(70, 0), minus}, api.ErrNegative},
		{"1,024 shares, the last one negative", append(over(1, make([]int64, 1023)...), minus), api.ErrNegative},
		{"1,025 shares", append(over(1, 1), zeros...), api.ErrLong},
		{"1,025 shares, one of them negative", append(over(1, -1), zeros...), api.ErrLong},
		{"1,025 shares, one of them a fraction", append(over(2, 1), zeros...), api.ErrLong},
		{"3,000 shares, all of them negative fractions", slices.Repeat(over(2, -1), 3000), api.ErrLong},
	} {
		if got, e := apportion.Largest(rats(x.shares)); e != x.want || len(got) != 0 {
			t.Errorf("P4.1: Largest of %s: %v, %d, want %d", x.name, got, e, x.want)
		}
	}
}

func TestMostShares(t *testing.T) {
	shares := []*big.Rat{}
	for i := range int64(1023) {
		shares = append(shares, big.NewRat(i*i*7919%5003, i%37+1))
	}
	checkLargest(t, completed(shares))
	got, e := apportion.Largest(rats(slices.Repeat(over(2, 3), 1024)))
	if want := slices.Concat(slices.Repeat([]int64{2}, 512), slices.Repeat([]int64{1}, 512)); e != api.OK || !slices.Equal(got, want) {
		t.Errorf("P4.1: Largest of 1,024 equal shares: %v, %d", got, e)
	}
}

// invalid returns numbers that break each rule of validity.
func invalid() []api.Rat {
	return []api.Rat{
		{Neg: true},
		{Den: "\x02"},
		{Num: "\x00\x05"},
		{Neg: true, Num: "\x00\x05"},
		{Num: "\x05", Den: "\x00"},
		{Num: "\x05", Den: "\x01"},
		{Neg: true, Num: "\x05", Den: "\x01"},
		{Num: "\x05", Den: "\x00\x03"},
		{Num: "\x06", Den: "\x04"},
		{Num: "\x02", Den: "\x02"},
		{Neg: true, Num: "\x07", Den: "\x0e"},
	}
}

func TestInvalidSharesCountAsZero(t *testing.T) {
	for _, bad := range invalid() {
		shares := append(rats(over(2, 1, 3)), bad, rat(big.NewRat(1, 1)))
		if got, e := apportion.Largest(shares); e != api.OK || !slices.Equal(got, []int64{1, 1, 0, 1}) {
			t.Errorf("P4.1: Largest with %#v: %v, %d", bad, got, e)
		}
		if got, e := apportion.Largest([]api.Rat{bad}); e != api.OK || !slices.Equal(got, []int64{0}) {
			t.Errorf("P4.1: Largest of %#v: %v, %d", bad, got, e)
		}
		if got, e := apportion.Largest(append(rats(over(2, 1)), bad)); e != api.ErrSum || len(got) != 0 {
			t.Errorf("P4.1: Largest of 1/2 and %#v: %v, %d", bad, got, e)
		}
	}
}
