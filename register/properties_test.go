package register_test

import (
	"math/rand"
	"strconv"
	"testing"

	"insolvency/api"
	"insolvency/rational"
	"insolvency/register"
)

// event returns an event of a random kind, which often has no error: its amount
// is most often between the bounds of its entry, or one of them.
func event(source *rand.Rand, r api.Register) api.RegisterEvent {
	kinds := []int{api.EvFile, api.EvAdmit, api.EvDispute, api.EvDispute, api.EvDecide, api.EvDecide, api.EvAppeal, api.EvAppeal, api.EvRevise, api.EvWithdraw, api.EvAssign, api.EvLapse}
	e := api.RegisterEvent{Kind: kinds[source.Intn(len(kinds))], Day: r.Day + source.Intn(3), Creditor: source.Intn(8), ID: name(source)}
	e.Proof = claim(name(source))
	e.Proof.Code = []string{"EUR", "USD", "JPY"}[source.Intn(3)]
	e.Proof.Amount = fraction(source.Int63n(1000), 1+source.Int63n(9))
	e.Proof.Incurred = 50 + source.Intn(52)
	if source.Intn(2) == 0 {
		e.Proof.Rate, e.Proof.RateFrom = fraction(1+source.Int63n(9), 100), 50+source.Intn(60)
	}
	if i, found := register.Find(r, e.ID); found {
		e.Amount = between(source, r.Entries[i])
	}
	if source.Intn(20) == 0 {
		e.Day = r.Day - 1
	}
	if source.Intn(20) == 0 {
		e.Creditor = []int{-1, 32}[source.Intn(2)]
	}
	if source.Intn(20) == 0 {
		e.Kind = []int{0, 10}[source.Intn(2)]
	}
	return e
}

func name(source *rand.Rand) string { return "c" + strconv.Itoa(source.Intn(8)) }

// between returns an amount near the bounds of an entry.
func between(source *rand.Rand, x api.Entry) api.Rat {
	switch source.Intn(8) {
	case 0:
		return x.Floor
	case 1:
		return x.Ceiling
	case 2:
		return rational.Add(x.Ceiling, fraction(1, 1000))
	case 3:
		return rational.Subtract(x.Floor, fraction(1, 1000))
	}
	part := fraction(source.Int63n(11), 10)
	return rational.Add(x.Floor, rational.Multiply(part, rational.Subtract(x.Ceiling, x.Floor)))
}

// checkEntries reports an error if an entry breaks the order of its numbers, or
// if two entries have the same ID.
func checkEntries(t *testing.T, r api.Register) {
	t.Helper()
	seen := map[string]bool{}
	for _, x := range r.Entries {
		if rational.Sign(x.Floor) < 0 || rational.Compare(x.Floor, x.Admitted) > 0 || rational.Compare(x.Admitted, x.Ceiling) > 0 || rational.Compare(x.Ceiling, x.Claimed) > 0 {
			t.Errorf("P10.5: the order of the numbers of %s", showEntry(x))
		}
		if seen[x.Proof.ID] {
			t.Errorf("P10.5: the ID %q occurs twice", x.Proof.ID)
		}
		seen[x.Proof.ID] = true
	}
}

// checkStep reports an error if an event, other than a withdrawal, decreases
// Floor or increases Ceiling of an entry, or changes what was claimed.
func checkStep(t *testing.T, before, now api.Register, e api.RegisterEvent) {
	t.Helper()
	for i, old := range before.Entries {
		x := now.Entries[i]
		if x.Claimed != old.Claimed || x.Late != old.Late || x.Proof.ID != old.Proof.ID {
			t.Errorf("P10.4: %s changes %s to %s", showEvent(e), showEntry(old), showEntry(x))
		}
		if e.Kind == api.EvWithdraw && old.Proof.ID == e.ID {
			continue
		}
		if rational.Compare(x.Floor, old.Floor) < 0 || rational.Compare(x.Ceiling, old.Ceiling) > 0 {
			t.Errorf("P10.5: %s changes %s to %s", showEvent(e), showEntry(old), showEntry(x))
		}
	}
}

func TestSequencesOfEvents(t *testing.T) {
	source := rand.New(rand.NewSource(10))
	ends, errnos := map[int]int{}, map[api.Errno]int{}
	for range 500 {
		r, _ := register.New(100, 110)
		for range 80 {
			e := event(source, r)
			before := copied(r)
			next, errno := checkApply(t, r, e)
			if !same(r, before) {
				t.Errorf("P10.5: %s changes its argument", showEvent(e))
			}
			errnos[errno]++
			if errno == api.OK {
				checkStep(t, r, next, e)
				checkEntries(t, next)
				r = next
			}
		}
		for _, x := range r.Entries {
			ends[x.State]++
		}
	}
	for state := api.StFiled; state <= api.StWithdrawn; state++ {
		if ends[state] < 20 {
			t.Errorf("only %d claims end in the state %d", ends[state], state)
		}
	}
	for _, errno := range []api.Errno{api.OK, api.ErrRange, api.ErrOrder, api.ErrName, api.ErrState, api.ErrParty, api.ErrTwice, api.ErrLate} {
		if errnos[errno] < 20 {
			t.Errorf("only %d events have the error %d", errnos[errno], errno)
		}
	}
}
