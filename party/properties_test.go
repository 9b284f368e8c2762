package party_test

import (
	"math/big"
	"math/rand"
	"slices"
	"testing"

	"insolvency/api"
	"insolvency/party"
)

func TestConnectionIsReflexiveAndSymmetric(t *testing.T) {
	for i, w := range worlds() {
		p := w.parties()
		for a := range w.kinds {
			if got, e := party.Connected(p, a, a); !got || e != api.OK {
				t.Errorf("P8.6: Connected(%d, %d) of world %d: %v, %d", a, a, i, got, e)
			}
			for b := range a {
				there, _ := party.Connected(p, a, b)
				back, _ := party.Connected(p, b, a)
				if there != back {
					t.Errorf("P8.6: Connected of %d and %d in world %d: %v, but backward %v", a, b, i, there, back)
				}
			}
		}
	}
}

func TestControlIsTransitive(t *testing.T) {
	for i, w := range worlds() {
		p := w.parties()
		for a := range w.kinds {
			first, _ := party.Controlled(p, a)
			if slices.Contains(first, a) {
				t.Errorf("P8.2: party %d of world %d controls itself", a, i)
			}
			for _, b := range first {
				second, _ := party.Controlled(p, b)
				for _, c := range second {
					if c != a && !slices.Contains(first, c) {
						t.Errorf("P8.6: in world %d, %d controls %d, which controls %d, which %d does not control", i, a, b, c, a)
					}
				}
			}
		}
	}
}

func TestStakesNeverRemoveCompanies(t *testing.T) {
	source := rand.New(rand.NewSource(86))
	added := 0
	for i, w := range worlds() {
		p := w.parties()
		for range 5 {
			if len(p.Kinds) < 2 {
				continue
			}
			votes := rat(big.NewRat(1+source.Int63n(3), 4))
			larger := p
			larger.Stakes = append(slices.Clone(p.Stakes), api.Stake{Owner: source.Intn(len(p.Kinds)), Company: source.Intn(len(p.Kinds)), Votes: votes})
			if party.Check(larger) != api.OK {
				continue
			}
			added++
			for a := range p.Kinds {
				before, _ := party.Controlled(p, a)
				after, _ := party.Controlled(larger, a)
				for _, company := range before {
					if !slices.Contains(after, company) {
						t.Errorf("P8.6: in world %d, %d controls %d, but no longer with %#v", i, a, company, larger.Stakes[len(p.Stakes)])
					}
				}
			}
			p = larger
		}
	}
	if added < 100 {
		t.Errorf("only %d stakes could be added", added)
	}
}

// The order of stakes and of ties does not matter.
func TestOrderDoesNotMatter(t *testing.T) {
	for i, w := range worlds() {
		p, backward := w.parties(), w.parties()
		slices.Reverse(backward.Stakes)
		slices.Reverse(backward.Ties)
		for a := range w.kinds {
			controlled, _ := party.Controlled(p, a)
			checkControlled(t, "a backward world", backward, a, controlled, api.OK)
			circle, _ := party.Circle(p, a)
			checkCircle(t, "a backward world", backward, a, circle, api.OK)
		}
		if t.Failed() {
			t.Fatalf("world %d", i)
		}
	}
}
