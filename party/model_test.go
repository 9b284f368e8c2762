package party_test

import (
	"math/big"
	"math/rand"

	"insolvency/api"
)

// The model calculates with math/big and takes the definitions of the document
// literally: the least set is what all sets of the required kind have in
// common. So the package is not compared with its own calculation.

// stake is a stake without an error.
type stake struct {
	owner, company int
	votes          *big.Rat
}

// world describes parties without an error.
type world struct {
	kinds  []int
	stakes []stake
	ties   []api.Tie
}

// rat returns the api.Rat of x.
func rat(x *big.Rat) api.Rat {
	r := api.Rat{Neg: x.Sign() < 0, Num: string(x.Num().Bytes())}
	if !x.IsInt() {
		r.Den = string(x.Denom().Bytes())
	}
	return r
}

func fraction(a, b int64) api.Rat { return rat(big.NewRat(a, b)) }

// parties returns w as an argument of the package.
func (w world) parties() api.Parties {
	p := api.Parties{}
	p.Kinds = append(p.Kinds, w.kinds...)
	for _, s := range w.stakes {
		p.Stakes = append(p.Stakes, api.Stake{Owner: s.owner, Company: s.company, Votes: rat(s.votes)})
	}
	p.Ties = append(p.Ties, w.ties...)
	return p
}

// majority reports whether the owner and the companies of the set together
// hold more than 1/2 of the votes in the company.
func (w world) majority(owner int, set uint64, company int) bool {
	sum := new(big.Rat)
	for _, s := range w.stakes {
		if s.company == company && (s.owner == owner || set>>s.owner&1 == 1) {
			sum.Add(sum, s.votes)
		}
	}
	return sum.Cmp(big.NewRat(1, 2)) > 0
}

// closed reports whether the set contains all companies in which the owner and
// the set have a majority.
func (w world) closed(owner int, set uint64) bool {
	for company, kind := range w.kinds {
		if kind == api.Company && company != owner && set>>company&1 == 0 && w.majority(owner, set, company) {
			return false
		}
	}
	return true
}

// leastSet returns what all closed sets of companies other than the owner have
// in common. It takes long if there are many companies.
func (w world) leastSet(owner int) uint64 {
	companies := uint64(0)
	for party, kind := range w.kinds {
		if kind == api.Company && party != owner {
			companies |= 1 << party
		}
	}
	least := companies
	for set := companies; ; set = (set - 1) & companies {
		if w.closed(owner, set) {
			least &= set
		}
		if set == 0 {
			return least
		}
	}
}

// grown returns the set that is found if all companies in which there is a
// majority are added again and again. It is used where leastSet takes too long.
func (w world) grown(owner int) uint64 {
	set := uint64(0)
	for !w.closed(owner, set) {
		next := set
		for company, kind := range w.kinds {
			if kind == api.Company && company != owner && w.majority(owner, set, company) {
				next |= 1 << company
			}
		}
		set = next
	}
	return set
}

// controlled returns what P8.2 says, for each party.
func (w world) controlled() []uint64 {
	sets := []uint64{}
	for owner := range w.kinds {
		if len(w.kinds) <= 8 {
			sets = append(sets, w.leastSet(owner))
		} else {
			sets = append(sets, w.grown(owner))
		}
	}
	return sets
}

// connected reports what P8.4 says, given the sets of controlled.
func (w world) connected(sets []uint64, a, b int) bool {
	if a == b || sets[a]>>b&1 == 1 || sets[b]>>a&1 == 1 {
		return true
	}
	for _, tie := range w.ties {
		if tie == (api.Tie{A: a, B: b}) || tie == (api.Tie{A: b, B: a}) {
			return true
		}
	}
	for _, set := range sets {
		if set>>a&1 == 1 && set>>b&1 == 1 {
			return true
		}
	}
	return false
}

// members returns the parties of a set in ascending order.
func members(set uint64) []int {
	out := []int{}
	for party := range 64 {
		if set>>party&1 == 1 {
			out = append(out, party)
		}
	}
	return out
}

// kindsOf returns the kinds of so many persons, and then of so many companies.
func kindsOf(persons, companies int) []int {
	kinds := []int{}
	for range persons {
		kinds = append(kinds, api.Person)
	}
	for range companies {
		kinds = append(kinds, api.Company)
	}
	return kinds
}

// example is the example of the document, with a relative of party 0.
func example() world {
	return world{
		kinds:  []int{api.Person, api.Company, api.Company, api.Person},
		stakes: []stake{{0, 1, big.NewRat(6, 10)}, {0, 2, big.NewRat(3, 10)}, {1, 2, big.NewRat(3, 10)}},
		ties:   []api.Tie{{A: 3, B: 0}},
	}
}

// chain has as many parties as there may be: each one controls the next one.
// If backward is true, the stakes and the numbers of the parties run against
// each other.
func chain(backward bool) world {
	w := world{kinds: kindsOf(0, api.MaxParties)}
	for i := range api.MaxParties - 1 {
		owner, company := i, i+1
		if backward {
			owner, company = api.MaxParties-1-i, api.MaxParties-2-i
		}
		w.stakes = append([]stake{{owner, company, big.NewRat(int64(501+i), 1000)}}, w.stakes...)
	}
	return w
}

// star has a person who controls 31 companies by two stakes each in some of
// them, and ties between parties that are not connected otherwise.
func star() world {
	w := world{kinds: kindsOf(1, api.MaxParties-1)}
	for i := 1; i < api.MaxParties; i++ {
		w.stakes = append(w.stakes, stake{0, i, big.NewRat(1, 3)})
		if i%3 > 0 {
			w.stakes = append(w.stakes, stake{0, i, big.NewRat(1, 6*int64(i%3))})
		}
	}
	for i := range api.MaxStakes {
		w.ties = append(w.ties, api.Tie{A: 3 * (1 + i%9), B: (3*(i%9) + 1 + i%8) % api.MaxParties})
		if w.ties[i].A == w.ties[i].B {
			w.ties[i].B = 0
		}
	}
	return w
}

// random returns parties with so many stakes and ties at most. The votes are
// such that 1/2 and 1 are often reached exactly.
func random(source *rand.Rand, parties, stakes, ties int) world {
	w := world{}
	for range parties {
		kind := api.Company
		if source.Intn(5) == 0 {
			kind = api.Person
		}
		w.kinds = append(w.kinds, kind)
	}
	left := map[int]*big.Rat{}
	for range stakes {
		owner, company := source.Intn(parties), source.Intn(parties)
		if left[company] == nil {
			left[company] = big.NewRat(1, 1)
		}
		over := []int64{2, 3, 4, 6, 10}[source.Intn(5)]
		votes := big.NewRat(1+source.Int63n(over), over)
		if owner == company || w.kinds[company] == api.Person || votes.Cmp(left[company]) > 0 {
			continue
		}
		left[company].Sub(left[company], votes)
		w.stakes = append(w.stakes, stake{owner, company, votes})
	}
	for range ties {
		a, b := source.Intn(parties), source.Intn(parties)
		if a != b {
			w.ties = append(w.ties, api.Tie{A: a, B: b})
		}
	}
	return w
}

// known returns parties that were chosen for what the document names.
func known() []world {
	half, most := big.NewRat(1, 2), big.NewRat(51, 100)
	little := new(big.Rat).SetFrac(big.NewInt(1), new(big.Int).Exp(big.NewInt(7), big.NewInt(300), nil))
	return []world{
		{}, {kinds: kindsOf(1, 0)}, {kinds: kindsOf(0, 1)}, example(), chain(false), chain(true), star(),
		// exactly 1/2, a little more, and a little less
		{kinds: kindsOf(2, 1), stakes: []stake{{0, 2, half}, {1, 2, half}}},
		{kinds: kindsOf(2, 1), stakes: []stake{{0, 2, half}, {1, 2, big.NewRat(1, 3)}, {0, 2, little}}},
		{kinds: kindsOf(2, 1), stakes: []stake{{0, 2, new(big.Rat).Sub(half, little)}, {1, 2, new(big.Rat).Add(half, little)}}},
		{kinds: kindsOf(1, 2), stakes: []stake{{0, 2, big.NewRat(1, 3)}, {0, 1, most}, {1, 2, big.NewRat(1, 6)}}},
		// companies in a circle, held by each other only, and by a person
		{kinds: kindsOf(0, 2), stakes: []stake{{0, 1, big.NewRat(1, 1)}, {1, 0, big.NewRat(1, 1)}}},
		{kinds: kindsOf(0, 3), stakes: []stake{{0, 1, most}, {1, 2, most}, {2, 0, most}}},
		{kinds: kindsOf(1, 3), stakes: []stake{{1, 2, most}, {2, 3, most}, {3, 1, most}, {0, 1, big.NewRat(49, 100)}}},
		{kinds: kindsOf(1, 3), stakes: []stake{{1, 2, most}, {2, 3, most}, {3, 1, big.NewRat(49, 100)}, {0, 1, most}}},
		{kinds: kindsOf(1, 2), stakes: []stake{{1, 2, half}, {2, 1, half}, {0, 1, half}, {0, 2, half}}},
		// two companies that are held by a person and by each other in equal
		// parts: nobody begins
		{kinds: kindsOf(1, 2), stakes: []stake{{0, 1, big.NewRat(1, 3)}, {2, 1, big.NewRat(1, 3)}, {0, 2, big.NewRat(1, 3)}, {1, 2, big.NewRat(1, 3)}}},
		// the companies of a person add up, those of different persons do not
		{kinds: kindsOf(2, 3), stakes: []stake{{0, 2, most}, {1, 3, most}, {2, 4, half}, {3, 4, half}}},
		{kinds: kindsOf(2, 3), stakes: []stake{{0, 2, most}, {0, 3, most}, {2, 4, half}, {3, 4, half}}},
		// ties are not transitive, and they do not continue control
		{kinds: kindsOf(4, 2), stakes: []stake{{1, 4, most}, {4, 5, most}}, ties: []api.Tie{{A: 0, B: 1}, {A: 1, B: 2}, {A: 3, B: 2}, {A: 1, B: 0}, {A: 5, B: 3}}},
	}
}

// worlds returns parties of all kinds. They are the same in every run.
func worlds() []world {
	out := known()
	source := rand.New(rand.NewSource(8))
	for i := range 300 {
		out = append(out, random(source, 2+i%7, 3+i%17, i%4))
	}
	for i := range 30 {
		out = append(out, random(source, 9+i%24, 20+i, 2*i))
	}
	for range 10 {
		out = append(out, random(source, api.MaxParties, api.MaxStakes, api.MaxStakes))
	}
	return out
}
