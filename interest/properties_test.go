package interest_test

import (
	"math"
	"testing"

	"insolvency/api"
	"insolvency/interest"
	"insolvency/rational"
)

// mustSimple returns the result of Simple for arguments without an error.
func mustSimple(t *testing.T, principal api.Rat, x terms) api.Rat {
	t.Helper()
	got, e := interest.Simple(principal, rateSteps(x.steps), x.from, x.to, x.base)
	if e != api.OK {
		t.Errorf("P6.3: Simple with %v: %d", x, e)
	}
	return got
}

// mustCompound returns the result of Compound for arguments without an error.
func mustCompound(t *testing.T, principal api.Rat, x terms) api.Rat {
	t.Helper()
	got, e := interest.Compound(principal, rateSteps(x.steps), x.from, x.to, x.base, x.every)
	if e != api.OK {
		t.Errorf("P6.4: Compound with %v: %d", x, e)
	}
	return got
}

func TestSimpleIsAdditive(t *testing.T) {
	principal := fraction(1000, 7)
	for _, steps := range schedules() {
		for _, days := range intervals() {
			from, to := days[0], days[1]
			whole := mustSimple(t, principal, terms{steps, from, to, 365, 0})
			for _, between := range []int{from, from + (to-from)/3, (from + to) / 2, max(from, to-1), to} {
				first := mustSimple(t, principal, terms{steps, from, between, 365, 0})
				second := mustSimple(t, principal, terms{steps, between, to, 365, 0})
				if rational.Add(first, second) != whole {
					t.Errorf("P6.5: Simple from %d to %d and to %d with %v", from, between, to, steps)
				}
			}
		}
	}
}

func TestSimpleIsProportional(t *testing.T) {
	factors := []api.Rat{{}, fraction(1, 1), fraction(2, 1), fraction(355, 113), fraction(1, 1<<62)}
	for _, steps := range schedules() {
		for _, days := range intervals() {
			x := terms{steps, days[0], days[1], 360, 0}
			for _, principal := range principals() {
				one := mustSimple(t, rat(principal), x)
				for _, factor := range factors {
					if got := mustSimple(t, rational.Multiply(factor, rat(principal)), x); got != rational.Multiply(factor, one) {
						t.Errorf("P6.5: Simple of %s times %v with %v", rational.Format(factor), principal, x)
					}
				}
			}
		}
	}
}

func TestCompoundIsAtLeastSimple(t *testing.T) {
	principal := fraction(1000, 7)
	for _, steps := range schedules() {
		for _, days := range intervals() {
			from, to := days[0], days[1]
			plain := mustSimple(t, principal, terms{steps, from, to, 365, 0})
			for _, every := range []int{(to-from)/64 + 1, (to-from)/7 + 1, max(to-from-1, 1)} {
				if rational.Compare(mustCompound(t, principal, terms{steps, from, to, 365, every}), plain) < 0 {
					t.Errorf("P6.5: Compound from %d to %d, every %d, with %v", from, to, every, steps)
				}
			}
			for _, every := range []int{max(to-from, 1), to - from + 1, api.MaxDays, math.MaxInt - from, math.MaxInt} {
				if mustCompound(t, principal, terms{steps, from, to, 365, every}) != plain {
					t.Errorf("P6.5: Compound of a single period from %d to %d, every %d, with %v", from, to, every, steps)
				}
			}
		}
	}
}

func TestCompoundOfAdjacentIntervals(t *testing.T) {
	principal := fraction(1000, 7)
	for _, steps := range schedules() {
		for _, days := range intervals() {
			from, to := days[0], days[1]
			for _, every := range []int{(to-from)/60 + 1, (to-from)/5 + 1} {
				whole := mustCompound(t, principal, terms{steps, from, to, 360, every})
				for between := from; between <= to; between += every {
					first := mustCompound(t, principal, terms{steps, from, between, 360, every})
					second := mustCompound(t, rational.Add(principal, first), terms{steps, between, to, 360, every})
					if rational.Add(first, second) != whole {
						t.Errorf("P6.5: Compound from %d to %d and to %d, every %d, with %v", from, between, to, every, steps)
					}
				}
			}
		}
	}
}
