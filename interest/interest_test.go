package interest_test

import (
	"math"
	"math/big"
	"slices"
	"testing"

	"insolvency/api"
	"insolvency/interest"
	"insolvency/rational"
)

// half is a rate of 1/2 from day 0 on.
func half() []api.RateStep {
	return []api.RateStep{{From: 0, Rate: fraction(1, 2)}}
}

// daily returns so many steps, one a day.
func daily(size int) []api.RateStep {
	steps := make([]api.RateStep, size)
	for i := range steps {
		steps[i] = api.RateStep{From: i, Rate: fraction(1, int64(i+1))}
	}
	return steps
}

func checkSimple(t *testing.T, principal *big.Rat, x terms) {
	t.Helper()
	got, e := interest.Simple(rat(principal), rateSteps(x.steps), x.from, x.to, x.base)
	if want := simple(principal, x); got != rat(want) || e != api.OK {
		t.Errorf("P6.3: Simple of %v, %v: %s, %d, want %v", principal, x, rational.Format(got), e, want)
	}
}

func checkCompound(t *testing.T, principal *big.Rat, x terms) {
	t.Helper()
	want, wantError := new(big.Rat), api.ErrLong
	if count(x) <= 64 {
		want, wantError = compound(principal, x), api.OK
	}
	got, e := interest.Compound(rat(principal), rateSteps(x.steps), x.from, x.to, x.base, x.every)
	if got != rat(want) || e != wantError {
		t.Errorf("P6.4: Compound of %v, %v: %s, %d, want %v, %d", principal, x, rational.Format(got), e, want, wantError)
	}
}

func TestCheckOfSchedules(t *testing.T) {
	for _, steps := range schedules() {
		if e := interest.Check(rateSteps(steps)); e != api.OK {
			t.Errorf("P6.1: Check of %v: %d", steps, e)
		}
	}
	if e := interest.Check([]api.RateStep{}); e != api.OK {
		t.Errorf("P6.1: Check of no steps: %d", e)
	}
	if e := interest.Check(daily(api.MaxSteps)); e != api.OK {
		t.Errorf("P6.1: Check of 64 steps: %d", e)
	}
}

func TestCheckErrors(t *testing.T) {
	minus := fraction(-1, 100)
	for _, x := range []struct {
		name  string
		steps []api.RateStep
		want  api.Errno
	}{
		{"a day before the first one", []api.RateStep{{From: -1}}, api.ErrRange},
		{"the least int", []api.RateStep{{From: math.MinInt}}, api.ErrRange},
		{"a day after the last one", []api.RateStep{{From: 3}, {From: api.MaxDays + 1}}, api.ErrRange},
		{"the greatest int", []api.RateStep{{From: 3}, {From: math.MaxInt}}, api.ErrRange},
		{"no day, and a negative rate", []api.RateStep{{From: -1, Rate: minus}}, api.ErrRange},
		{"no day, and out of order", []api.RateStep{{From: 3}, {From: -1}}, api.ErrRange},
		{"a day twice", []api.RateStep{{From: 3}, {From: 3}}, api.ErrOrder},
		{"an earlier day", []api.RateStep{{From: 3}, {From: 9}, {From: 8}}, api.ErrOrder},
		{"later than the first day, but not than the last one", []api.RateStep{{From: 3}, {From: 9}, {From: 5}}, api.ErrOrder},
		{"an earlier day, and a negative rate", []api.RateStep{{From: 3}, {From: 2, Rate: minus}}, api.ErrOrder},
		{"a negative rate", []api.RateStep{{From: 3, Rate: minus}}, api.ErrNegative},
		{"a negative rate at the end", []api.RateStep{{From: 3}, {From: 4, Rate: fraction(1, 2)}, {From: 5, Rate: minus}}, api.ErrNegative},
		{"a negative rate before a day twice", []api.RateStep{{From: 3, Rate: minus}, {From: 3}}, api.ErrNegative},
		{"a negative rate before what is no day", []api.RateStep{{From: 3, Rate: minus}, {From: -1}}, api.ErrNegative},
		{"a day twice before what is no day", []api.RateStep{{From: 3}, {From: 3}, {From: -1}}, api.ErrOrder},
		{"the last of 64 steps is negative", append(daily(63), api.RateStep{From: 70, Rate: minus}), api.ErrNegative},
		{"65 steps", daily(65), api.ErrLong},
		{"65 steps, the first of them no day", append([]api.RateStep{{From: -1, Rate: minus}}, daily(64)...), api.ErrLong},
		{"3,000 equal steps", slices.Repeat([]api.RateStep{{From: 3}}, 3000), api.ErrLong},
	} {
		if e := interest.Check(x.steps); e != x.want {
			t.Errorf("P6.1: Check of %s: %d, want %d", x.name, e, x.want)
		}
		checkAllRefuse(t, x.name, x.steps, x.want)
	}
}

// checkAllRefuse reports an error unless all functions return the error of
// Check, with good and with bad other arguments.
func checkAllRefuse(t *testing.T, name string, steps []api.RateStep, want api.Errno) {
	t.Helper()
	for _, day := range []int{5, -1} {
		if got, e := interest.Rate(steps, day); e != want || got != (api.Rat{}) {
			t.Errorf("P6.2: Rate(%d) of %s: %v, %d", day, name, got, e)
		}
	}
	for _, x := range []struct {
		principal             api.Rat
		from, to, base, every int
	}{
		{fraction(5, 1), 0, 9, 365, 3}, {fraction(-5, 1), 0, 9, 365, 3}, {fraction(5, 1), 9, 0, 365, 3},
		{fraction(5, 1), -1, 9, 365, 3}, {fraction(5, 1), 0, 9, 0, 0}, {fraction(5, 1), 0, 1000, 365, 1},
	} {
		if got, e := interest.Simple(x.principal, steps, x.from, x.to, x.base); e != want || got != (api.Rat{}) {
			t.Errorf("P6.3: Simple with %v and %s: %v, %d", x, name, got, e)
		}
		if got, e := interest.Compound(x.principal, steps, x.from, x.to, x.base, x.every); e != want || got != (api.Rat{}) {
			t.Errorf("P6.4: Compound with %v and %s: %v, %d", x, name, got, e)
		}
	}
}

func TestRate(t *testing.T) {
	for _, steps := range schedules() {
		days := []int{0, 1, 100, 149, 150, 151, api.MaxDays - 4, api.MaxDays}
		for _, s := range steps {
			days = append(days, max(s.from-1, 0), s.from, min(s.from+1, api.MaxDays))
		}
		for _, day := range days {
			if got, e := interest.Rate(rateSteps(steps), day); got != rat(rate(steps, day)) || e != api.OK {
				t.Errorf("P6.2: Rate(%d) of %v: %s, %d", day, steps, rational.Format(got), e)
			}
		}
		for _, day := range []int{-1, api.MaxDays + 1, math.MinInt, math.MaxInt} {
			if got, e := interest.Rate(rateSteps(steps), day); got != (api.Rat{}) || e != api.ErrRange {
				t.Errorf("P6.2: Rate(%d) of %v: %s, %d", day, steps, rational.Format(got), e)
			}
		}
	}
}

func TestKnownInterest(t *testing.T) {
	tenth := []step{{0, big.NewRat(1, 10)}}
	rising := []step{{10, big.NewRat(1, 10)}, {20, big.NewRat(1, 5)}}
	yearly := []step{{0, big.NewRat(1, 1)}}
	for _, x := range []struct {
		principal        int64
		terms            terms
		simple, compound api.Rat
	}{
		{36500, terms{tenth, 0, 30, 365, 30}, fraction(300, 1), fraction(300, 1)},
		{36500, terms{tenth, 0, 30, 365, 15}, fraction(300, 1), fraction(300*73+45, 73)},
		{36500, terms{tenth, 0, 30, 365, 20}, fraction(300, 1), fraction(300*73+40, 73)},
		{36000, terms{tenth, 0, 30, 360, 31}, fraction(300, 1), fraction(300, 1)},
		{365, terms{rising, 0, 10, 365, 1}, api.Rat{}, api.Rat{}},
		{365, terms{rising, 9, 11, 365, 2}, fraction(1, 10), fraction(1, 10)},
		{365, terms{rising, 19, 21, 365, 2}, fraction(3, 10), fraction(3, 10)},
		{36500, terms{rising, 19, 21, 365, 1}, fraction(30, 1), fraction(30*365+2, 365)},
		{365, terms{rising, 15, 25, 365, math.MaxInt}, fraction(3, 2), fraction(3, 2)},
		{1, terms{yearly, 0, 720, 360, 360}, fraction(2, 1), fraction(3, 1)},
		{1, terms{yearly, 7, 1087, 360, 360}, fraction(3, 1), fraction(7, 1)},
		{8, terms{yearly, 100, 640, 360, 360}, fraction(12, 1), fraction(16, 1)},
		{1, terms{yearly, 0, 64 * 365, 365, 365}, fraction(64, 1), rat(new(big.Rat).SetInt(new(big.Int).Sub(new(big.Int).Lsh(big.NewInt(1), 64), big.NewInt(1))))},
		{3650, terms{tenth, 0, api.MaxDays, 365, api.MaxDays}, fraction(api.MaxDays, 1), fraction(api.MaxDays, 1)},
		{3650, terms{nil, 0, api.MaxDays, 365, 1 << 16}, api.Rat{}, api.Rat{}},
	} {
		principal, steps := fraction(x.principal, 1), rateSteps(x.terms.steps)
		got, e := interest.Simple(principal, steps, x.terms.from, x.terms.to, x.terms.base)
		if got != x.simple || e != api.OK {
			t.Errorf("P6.3: Simple of %d, %v: %s, %d", x.principal, x.terms, rational.Format(got), e)
		}
		got, e = interest.Compound(principal, steps, x.terms.from, x.terms.to, x.terms.base, x.terms.every)
		if got != x.compound || e != api.OK {
			t.Errorf("P6.4: Compound of %d, %v: %s, %d", x.principal, x.terms, rational.Format(got), e)
		}
	}
}

func TestInterestOfSchedules(t *testing.T) {
	for _, steps := range schedules() {
		for _, days := range intervals() {
			for i, principal := range principals() {
				base := []int{360, 365}[i%2]
				checkSimple(t, principal, terms{steps, days[0], days[1], base, 0})
				for _, every := range []int{1, 2, 3, 10, 30, 63, 64, 65, api.MaxDays, math.MaxInt} {
					checkCompound(t, principal, terms{steps, days[0], days[1], base, every})
				}
			}
		}
	}
}

func TestInterestOfAllDays(t *testing.T) {
	for _, steps := range schedules() {
		checkSimple(t, big.NewRat(100, 3), terms{steps, 0, api.MaxDays, 360, 0})
		checkCompound(t, big.NewRat(100, 3), terms{steps, 0, api.MaxDays, 360, 1 << 18})
	}
}

// 64 periods are not too many, whether or not the last one is shorter.
func TestNumberOfPeriods(t *testing.T) {
	for _, x := range []struct {
		to, every int
		want      api.Errno
	}{
		{64, 1, api.OK}, {65, 1, api.ErrLong}, {66, 1, api.ErrLong}, {128, 2, api.OK}, {127, 2, api.OK}, {129, 2, api.ErrLong},
		{640, 10, api.OK}, {631, 10, api.OK}, {641, 10, api.ErrLong}, {api.MaxDays, 1, api.ErrLong}, {0, 1, api.OK},
		{api.MaxDays, 1 << 14, api.OK}, {api.MaxDays, 1<<14 - 1, api.ErrLong}, {api.MaxDays, math.MaxInt, api.OK},
	} {
		for _, steps := range [][]api.RateStep{nil, half()} {
			got, e := interest.Compound(fraction(1, 1), steps, 0, x.to, 365, x.every)
			if e != x.want || e != api.OK && got != (api.Rat{}) {
				t.Errorf("P6.4: Compound for %d days with periods of %d: %s, %d", x.to, x.every, rational.Format(got), e)
			}
		}
	}
}

func TestErrors(t *testing.T) {
	plus, minus := fraction(5, 1), fraction(-1, 7)
	for _, x := range []struct {
		principal      api.Rat
		from, to, base int
		want           api.Errno
	}{
		{plus, -1, 9, 365, api.ErrRange}, {plus, 0, api.MaxDays + 1, 365, api.ErrRange}, {plus, api.MaxDays + 1, api.MaxDays + 1, 360, api.ErrRange},
		{plus, -1, -1, 365, api.ErrRange}, {plus, 0, -1, 365, api.ErrRange}, {plus, api.MaxDays + 1, 9, 365, api.ErrRange},
		{plus, math.MinInt, math.MaxInt, 365, api.ErrRange}, {plus, 0, math.MaxInt, 365, api.ErrRange}, {plus, math.MinInt, 0, 365, api.ErrRange},
		{plus, 0, 9, 0, api.ErrRange}, {plus, 0, 9, 359, api.ErrRange}, {plus, 0, 9, 361, api.ErrRange}, {plus, 0, 9, 364, api.ErrRange}, {plus, 0, 9, 366, api.ErrRange},
		{plus, 0, 9, -360, api.ErrRange}, {plus, 0, 9, -365, api.ErrRange}, {plus, 0, 9, 365 + 1<<32, api.ErrRange}, {plus, 0, 9, math.MinInt, api.ErrRange},
		{minus, 9, 0, 0, api.ErrRange}, {minus, -1, 9, 365, api.ErrRange}, {plus, 5, 5, 1, api.ErrRange},
		{plus, 9, 8, 365, api.ErrOrder}, {plus, api.MaxDays, 0, 360, api.ErrOrder}, {minus, 9, 8, 365, api.ErrOrder}, {api.Rat{}, 1, 0, 365, api.ErrOrder},
		{minus, 0, 9, 365, api.ErrNegative}, {minus, 5, 5, 360, api.ErrNegative}, {minus, 0, api.MaxDays, 360, api.ErrNegative},
	} {
		for _, steps := range [][]api.RateStep{nil, half(), daily(64)} {
			if got, e := interest.Simple(x.principal, steps, x.from, x.to, x.base); e != x.want || got != (api.Rat{}) {
				t.Errorf("P6.3: Simple with %v: %v, %d", x, got, e)
			}
			for _, every := range []int{1, 9, math.MaxInt} {
				if got, e := interest.Compound(x.principal, steps, x.from, x.to, x.base, every); e != x.want || got != (api.Rat{}) {
					t.Errorf("P6.4: Compound with %v and periods of %d: %v, %d", x, every, got, e)
				}
			}
		}
	}
}

func TestPeriodErrors(t *testing.T) {
	for _, every := range []int{0, -1, -360, math.MinInt} {
		for _, x := range []struct {
			principal api.Rat
			from, to  int
		}{{fraction(5, 1), 0, 9}, {fraction(5, 1), 4, 4}, {fraction(5, 1), 9, 0}, {fraction(-5, 1), 0, 9}, {fraction(-5, 1), 0, 1000}} {
			if got, e := interest.Compound(x.principal, half(), x.from, x.to, 365, every); e != api.ErrRange || got != (api.Rat{}) {
				t.Errorf("P6.4: Compound with %v and periods of %d: %v, %d", x, every, got, e)
			}
		}
	}
}

// invalid returns numbers that break each rule of validity.
func invalid() []api.Rat {
	return []api.Rat{
		{Neg: true}, {Den: "\x02"}, {Num: "\x00\x05"}, {Neg: true, Num: "\x00\x05"}, {Num: "\x05", Den: "\x00"}, {Num: "\x05", Den: "\x01"},
		{Neg: true, Num: "\x05", Den: "\x01"}, {Num: "\x05", Den: "\x00\x03"}, {Num: "\x06", Den: "\x04"}, {Neg: true, Num: "\x07", Den: "\x0e"},
	}
}

func TestInvalidNumbersCountAsZero(t *testing.T) {
	for _, bad := range invalid() {
		if got, e := interest.Simple(bad, half(), 0, 9, 365); got != (api.Rat{}) || e != api.OK {
			t.Errorf("P6.3: Simple of %#v: %v, %d", bad, got, e)
		}
		if got, e := interest.Compound(bad, half(), 0, 9, 365, 2); got != (api.Rat{}) || e != api.OK {
			t.Errorf("P6.4: Compound of %#v: %v, %d", bad, got, e)
		}
		steps := append(half(), api.RateStep{From: 5, Rate: bad}, api.RateStep{From: 7, Rate: fraction(1, 5)})
		if e := interest.Check(steps); e != api.OK {
			t.Errorf("P6.1: Check with %#v: %d", bad, e)
		}
		if got, e := interest.Rate(steps, 6); got != (api.Rat{}) || e != api.OK {
			t.Errorf("P6.2: Rate with %#v: %v, %d", bad, got, e)
		}
		if got, e := interest.Simple(fraction(360, 1), steps, 4, 8, 360); got != fraction(7, 10) || e != api.OK {
			t.Errorf("P6.3: Simple with %#v: %s, %d", bad, rational.Format(got), e)
		}
		if got, e := interest.Compound(fraction(720, 1), steps, 4, 6, 360, 1); got != fraction(1, 1) || e != api.OK {
			t.Errorf("P6.4: Compound with %#v: %s, %d", bad, rational.Format(got), e)
		}
	}
}

func TestStepsAreNotModified(t *testing.T) {
	steps := append(half(), api.RateStep{From: 5, Rate: api.Rat{Neg: true}})
	before := slices.Clone(steps)
	interest.Check(steps)
	interest.Rate(steps, 7)
	interest.Simple(fraction(5, 1), steps, 0, 9, 365)
	interest.Compound(fraction(5, 1), steps, 0, 9, 365, 2)
	if !slices.Equal(steps, before) {
		t.Errorf("the argument is modified: %v", steps)
	}
}
