package apportion_test

import (
	"math"
	"math/big"
	"math/rand"
	"slices"
	"testing"

	"insolvency/api"
	"insolvency/apportion"
)

// checkSplit compares the result with the definition, and with P4.3.
func checkSplit(t *testing.T, total int64, weights []*big.Rat) {
	t.Helper()
	got, e := apportion.Split(total, rats(weights))
	shares := parts(total, weights)
	if want := largest(shares); e != api.OK || !slices.Equal(got, want) {
		t.Errorf("P4.2: Split of %d by %v: %v, %d, want %v", total, weights, got, e, want)
	}
	checkProperties(t, "Split", shares, got)
}

func TestSplitOfKnownTotals(t *testing.T) {
	for _, x := range []struct {
		total   int64
		weights []*big.Rat
		want    []int64
	}{
		{10, over(1, 1, 1, 1), []int64{4, 3, 3}},
		{11, over(1, 1, 1, 1), []int64{4, 4, 3}},
		{12, over(1, 1, 1, 1), []int64{4, 4, 4}},
		{0, over(1, 1, 2), []int64{0, 0}},
		{1, over(1, 1, 2), []int64{0, 1}},
		{1, over(1, 5, 5), []int64{1, 0}},
		{5, over(1, 0, 3, 0), []int64{0, 5, 0}},
		{100, over(1, 1, 2, 4), []int64{14, 29, 57}},
		{100, over(7, 1, 2, 4), []int64{14, 29, 57}},
		{5, []*big.Rat{big.NewRat(1, 2), big.NewRat(1, 3)}, []int64{3, 2}},
		{7, []*big.Rat{big.NewRat(1, 3), big.NewRat(1, 2)}, []int64{3, 4}},
		{3, over(3, 1), []int64{3}},
		{2, []*big.Rat{power(90, 0), big.NewRat(1, 1)}, []int64{2, 0}},
		{2, []*big.Rat{big.NewRat(1, 1), power(90, 0)}, []int64{0, 2}},
		{1 << 62, []*big.Rat{power(90, 0), power(90, 0)}, []int64{1 << 61, 1 << 61}},
		{math.MaxInt64, over(1, 1), []int64{math.MaxInt64}},
		{math.MaxInt64, over(1, 1, 1), []int64{1 << 62, 1<<62 - 1}},
		{math.MaxInt64, over(1, 0, 1, 0), []int64{0, math.MaxInt64, 0}},
	} {
		if got, e := apportion.Split(x.total, rats(x.weights)); e != api.OK || !slices.Equal(got, x.want) {
			t.Errorf("P4.2: Split of %d by %v: %v, %d, want %v", x.total, x.weights, got, e, x.want)
		}
	}
}

func TestSplitByShortLists(t *testing.T) {
	choice := []*big.Rat{new(big.Rat), big.NewRat(1, 3), big.NewRat(1, 2), big.NewRat(1, 1), big.NewRat(7, 2)}
	for size := 1; size <= 4; size++ {
		for _, weights := range short(size, choice) {
			for _, total := range []int64{0, 1, 2, 3, 10, 97} {
				if sum(weights).Sign() > 0 {
					checkSplit(t, total, weights)
					continue
				}
				if got, e := apportion.Split(total, rats(weights)); e != api.ErrSum || len(got) != 0 {
					t.Errorf("P4.2: Split of %d by %v: %v, %d", total, weights, got, e)
				}
			}
		}
	}
}

func TestSplitByMixedLists(t *testing.T) {
	for n, weights := range mixed() {
		if sum(weights).Sign() > 0 {
			for _, total := range []int64{1, int64(n), 1000003, 1 << 50, math.MaxInt64 - 1, math.MaxInt64} {
				checkSplit(t, total, weights)
			}
		}
	}
}

// Split is Largest of the shares, and only the proportions of the weights
// matter.
func TestSplitIsLargest(t *testing.T) {
	for n, weights := range mixed() {
		if sum(weights).Sign() == 0 {
			continue
		}
		total := int64(n) * 12345
		want, _ := apportion.Largest(rats(parts(total, weights)))
		if got, e := apportion.Split(total, rats(weights)); e != api.OK || !slices.Equal(got, want) {
			t.Errorf("P4.2: Split of %d by %v: %v, %d, want %v", total, weights, got, e, want)
		}
		scaled := parts(7, weights)
		if got, e := apportion.Split(total, rats(scaled)); e != api.OK || !slices.Equal(got, want) {
			t.Errorf("P4.2: Split of %d by %v: %v, %d, want %v", total, scaled, got, e, want)
		}
	}
}

func TestSplitErrors(t *testing.T) {
	zeros := over(1, make([]int64, 1024)...)
	for _, x := range []struct {
		name    string
		total   int64
		weights []*big.Rat
		want    api.Errno
	}{
		{"no weights", 5, nil, api.ErrSum},
		{"no weights and no total", 0, nil, api.ErrSum},
		{"the weight 0", 5, over(1, 0), api.ErrSum},
		{"1,024 weights 0", 5, zeros, api.ErrSum},
		{"a negative total", -1, over(1, 1), api.ErrNegative},
		{"the least total", math.MinInt64, over(1, 1, 2), api.ErrNegative},
		{"a negative total and no weights", -1, nil, api.ErrNegative},
		{"a negative total and the weight 0", -7, over(1, 0), api.ErrNegative},
		{"a negative weight", 5, over(1, -1), api.ErrNegative},
		{"a negative weight and the total 0", 0, over(1, 3, -1), api.ErrNegative},
		{"a negative weight at the end", 5, over(7, 1, 2, -1), api.ErrNegative},
		{"weights with the sum 0, one of them negative", 5, over(2, 1, -1), api.ErrNegative},
		{"a negative total and a negative weight", -5, over(2, -1), api.ErrNegative},
		{"1,025 weights", 5, append(over(1, 1), zeros...), api.ErrLong},
		{"1,025 weights 0", 5, append(over(1, 0), zeros...), api.ErrLong},
		{"1,025 weights and a negative total", -1, append(over(1, 1), zeros...), api.ErrLong},
		{"1,025 weights, one of them negative", 5, append(over(1, -1), zeros...), api.ErrLong},
		{"3,000 negative weights and a negative total", -1, slices.Repeat(over(1, -1), 3000), api.ErrLong},
	} {
		if got, e := apportion.Split(x.total, rats(x.weights)); e != x.want || len(got) != 0 {
			t.Errorf("P4.2: Split by %s: %v, %d, want %d", x.name, got, e, x.want)
		}
	}
}

func TestMostWeights(t *testing.T) {
	weights := []*big.Rat{}
	for i := range int64(1024) {
		weights = append(weights, big.NewRat(i*i*7919%5003, i%37+1))
	}
	checkSplit(t, 1<<50, weights)
	got, e := apportion.Split(1030, rats(slices.Repeat(over(9, 4), 1024)))
	if want := slices.Concat(slices.Repeat([]int64{2}, 6), slices.Repeat([]int64{1}, 1018)); e != api.OK || !slices.Equal(got, want) {
		t.Errorf("P4.2: Split by 1,024 equal weights: %v, %d", got, e)
	}
}

// Weights have no limit of their own, and need not have common divisors.
func TestLongWeights(t *testing.T) {
	source := rand.New(rand.NewSource(5))
	weights := []*big.Rat{}
	for range 1024 {
		weights = append(weights, big.NewRat(source.Int63(), 1+source.Int63()))
	}
	got, e := apportion.Split(math.MaxInt64, rats(weights))
	total := int64(0)
	for _, n := range got {
		total += n
	}
	if e != api.OK || len(got) != len(weights) || total != math.MaxInt64 {
		t.Errorf("P4.2: Split by long weights: %d results with the sum %d, %d", len(got), total, e)
	}
}

func TestInvalidWeightsCountAsZero(t *testing.T) {
	for _, bad := range invalid() {
		weights := append(rats(over(2, 1, 1)), bad, rat(big.NewRat(2, 1)))
		if got, e := apportion.Split(10, weights); e != api.OK || !slices.Equal(got, []int64{2, 2, 0, 6}) {
			t.Errorf("P4.2: Split with %#v: %v, %d", bad, got, e)
		}
		if got, e := apportion.Split(10, []api.Rat{bad, bad}); e != api.ErrSum || len(got) != 0 {
			t.Errorf("P4.2: Split by %#v: %v, %d", bad, got, e)
		}
	}
}

func TestArgumentsAndResultsAreIndependent(t *testing.T) {
	shares := append(rats(over(2, 1, 3, 0)), api.Rat{Neg: true})
	before := slices.Clone(shares)
	first, _ := apportion.Largest(shares)
	second, _ := apportion.Split(9, shares)
	for _, results := range [][]int64{first, second} {
		for i := range results {
			results[i] = 99
		}
	}
	if !slices.Equal(shares, before) {
		t.Errorf("the argument is modified: %#v", shares)
	}
	if got, _ := apportion.Largest(shares); !slices.Equal(got, []int64{1, 1, 0, 0}) {
		t.Errorf("P4.1: a later result of Largest: %v", got)
	}
	if got, _ := apportion.Split(8, shares); !slices.Equal(got, []int64{2, 6, 0, 0}) {
		t.Errorf("P4.2: a later result of Split: %v", got)
	}
}
