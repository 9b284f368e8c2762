package interest_test

import (
	"math/big"
	"math/rand"
	"slices"

	"insolvency/api"
)

// The model calculates with math/big and goes from day to day and from period
// to period, so that the package is compared with the definitions and not with
// its own calculation.

// step is a step of the rate. The rates of the model are valid.
type step struct {
	from int
	rate *big.Rat
}

// terms are the arguments of Compound without the principal; Simple has no
// every.
type terms struct {
	steps                 []step
	from, to, base, every int
}

// rat returns the api.Rat of x.
func rat(x *big.Rat) api.Rat {
	r := api.Rat{Neg: x.Sign() < 0, Num: string(x.Num().Bytes())}
	if !x.IsInt() {
		r.Den = string(x.Denom().Bytes())
	}
	return r
}

func fraction(a, b int64) api.Rat { return rat(big.NewRat(a, b)) }

func rateSteps(steps []step) []api.RateStep {
	list := []api.RateStep{}
	for _, s := range steps {
		list = append(list, api.RateStep{From: s.from, Rate: rat(s.rate)})
	}
	return list
}

// last returns the index of the step that applies on the day, or -1.
func last(steps []step, day int) int {
	index := -1
	for i, s := range steps {
		if s.from <= day {
			index = i
		}
	}
	return index
}

// rate returns what P6.2 says.
func rate(steps []step, day int) *big.Rat {
	if i := last(steps, day); i >= 0 {
		return steps[i].rate
	}
	return new(big.Rat)
}

// simple returns what P6.3 says.
func simple(principal *big.Rat, x terms) *big.Rat {
	days := make([]int64, len(x.steps))
	for d := x.from; d < x.to; d++ {
		if i := last(x.steps, d); i >= 0 {
			days[i]++
		}
	}
	total := new(big.Rat)
	for i, n := range days {
		part := new(big.Rat).Mul(x.steps[i].rate, big.NewRat(n, int64(x.base)))
		total.Add(total, part.Mul(part, principal))
	}
	return total
}

// compound returns what P6.4 says.
func compound(principal *big.Rat, x terms) *big.Rat {
	grown := new(big.Rat).Set(principal)
	for start := x.from; start < x.to; {
		period := x
		period.from = start
		if x.to-start > x.every {
			period.to = start + x.every
		}
		grown.Add(grown, simple(grown, period))
		start = period.to
	}
	return grown.Sub(grown, principal)
}

// count returns the number of periods.
func count(x terms) int {
	n := 0
	for left := x.to - x.from; left > 0; left -= min(left, x.every) {
		n++
	}
	return n
}

func principals() []*big.Rat {
	return []*big.Rat{
		new(big.Rat), big.NewRat(1, 1), big.NewRat(36500, 1), big.NewRat(1, 3), big.NewRat(100000000007, 100),
		new(big.Rat).SetFrac(new(big.Int).Lsh(big.NewInt(1), 200), big.NewInt(1000003)),
	}
}

// schedules returns lists of steps: none, steps with the rate 0, on the first
// and the last day, on neighbouring days, and as many as there may be. They
// are the same in every run.
func schedules() [][]step {
	lists := [][]step{
		nil,
		{{0, big.NewRat(1, 10)}},
		{{0, new(big.Rat)}},
		{{10, big.NewRat(1, 10)}, {20, big.NewRat(1, 5)}},
		{{0, big.NewRat(1, 10)}, {7, new(big.Rat)}, {8, big.NewRat(3, 1)}, {9, big.NewRat(1, 7)}},
		{{api.MaxDays - 3, big.NewRat(1, 10)}, {api.MaxDays - 1, big.NewRat(1, 3)}, {api.MaxDays, big.NewRat(5, 1)}},
		{{5, new(big.Rat).SetFrac(big.NewInt(1), new(big.Int).Lsh(big.NewInt(3), 150))}, {30, big.NewRat(1<<60, 7)}},
	}
	source := rand.New(rand.NewSource(6))
	for _, size := range []int{2, 5, 12, api.MaxSteps} {
		steps := []step{}
		for i, day := range source.Perm(150)[:size] {
			steps = append(steps, step{day, big.NewRat(int64(source.Intn(50)), int64(1+(i*7)%40))})
		}
		slices.SortFunc(steps, func(a, b step) int { return a.from - b.from })
		lists = append(lists, steps)
	}
	return lists
}

// intervals returns intervals of days, some of them empty.
func intervals() [][2]int {
	return [][2]int{
		{0, 0}, {0, 1}, {0, 7}, {0, 10}, {0, 11}, {0, 30}, {0, 63}, {0, 64}, {5, 5}, {5, 9}, {7, 8}, {8, 9}, {9, 10}, {10, 11}, {10, 20},
		{15, 25}, {19, 20}, {20, 21}, {25, 25}, {25, 89}, {3, 160}, {api.MaxDays - 60, api.MaxDays}, {api.MaxDays - 3, api.MaxDays - 1},
		{api.MaxDays - 1, api.MaxDays}, {api.MaxDays, api.MaxDays},
	}
}
