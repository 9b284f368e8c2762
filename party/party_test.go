package party_test

import (
	"math"
	"math/big"
	"reflect"
	"slices"
	"testing"

	"insolvency/api"
	"insolvency/party"
)

// invalid returns numbers that break each rule of validity. They count as 0.
func invalid() []api.Rat {
	return []api.Rat{
		{Neg: true}, {Den: "\x02"}, {Num: "\x00\x05"}, {Neg: true, Num: "\x00\x05"}, {Num: "\x05", Den: "\x00"}, {Num: "\x01", Den: "\x01"},
		{Neg: true, Num: "\x05", Den: "\x01"}, {Num: "\x01", Den: "\x00\x03"}, {Num: "\x02", Den: "\x04"}, {Num: "\x07", Den: "\x0e"},
	}
}

// ints returns numbers that are no party if there are so many parties.
func ints(parties int) []int {
	return []int{-1, math.MinInt, parties, parties + 1, math.MaxInt}
}

// good returns parties without an error: the persons 0 and 1 and the companies
// 2, 3 and 4. Each function below breaks one thing in them.
func good() api.Parties {
	return api.Parties{
		Kinds: []int{api.Person, api.Person, api.Company, api.Company, api.Company},
		Stakes: []api.Stake{
			{Owner: 0, Company: 2, Votes: fraction(2, 3)}, {Owner: 1, Company: 2, Votes: fraction(1, 3)},
			{Owner: 2, Company: 3, Votes: fraction(1, 2)}, {Owner: 4, Company: 3, Votes: fraction(1, 4)}, {Owner: 3, Company: 4, Votes: fraction(1, 1)},
		},
		Ties: []api.Tie{{A: 0, B: 1}, {A: 4, B: 1}, {A: 1, B: 0}, {A: 2, B: 3}},
	}
}

// change breaks something in the parties.
type change func(p *api.Parties)

// broken returns the parties of good after the changes.
func broken(changes ...change) api.Parties {
	p := good()
	for _, c := range changes {
		c(&p)
	}
	return p
}

func kind(party, kind int) change { return func(p *api.Parties) { p.Kinds[party] = kind } }
func owner(i, owner int) change   { return func(p *api.Parties) { p.Stakes[i].Owner = owner } }
func company(i, company int) change {
	return func(p *api.Parties) { p.Stakes[i].Company = company }
}
func votes(i int, votes api.Rat) change {
	return func(p *api.Parties) { p.Stakes[i].Votes = votes }
}
func tie(i, a, b int) change { return func(p *api.Parties) { p.Ties[i] = api.Tie{A: a, B: b} } }

// lengths gives the parties so many elements. All of them are without an error,
// except that they may be too many.
func lengths(parties, stakes, ties int) change {
	return func(p *api.Parties) {
		p.Kinds = slices.Repeat([]int{api.Company}, parties)
		p.Stakes = slices.Repeat([]api.Stake{{Owner: 0, Company: 1, Votes: fraction(1, 1000)}}, stakes)
		p.Ties = slices.Repeat([]api.Tie{{A: 0, B: 1}}, ties)
	}
}

func TestPartiesWithoutAnError(t *testing.T) {
	for i, w := range worlds() {
		if e := party.Check(w.parties()); e != api.OK {
			t.Errorf("P8.1: Check of world %d: %d", i, e)
		}
	}
	for i, p := range []api.Parties{
		{}, {Kinds: []int{}, Stakes: []api.Stake{}, Ties: []api.Tie{}}, good(),
		broken(lengths(api.MaxParties, api.MaxStakes, api.MaxStakes)), broken(lengths(2, 0, api.MaxStakes)), broken(lengths(2, api.MaxStakes, 0)),
		// all votes of several companies, in one stake and in several
		broken(votes(2, fraction(3, 4))), broken(votes(0, fraction(1, 1000)), owner(1, 0)), broken(kind(1, api.Company)),
		broken(votes(0, rat(new(big.Rat).SetFrac(power(7, 900), power(11, 900))))),
	} {
		if e := party.Check(p); e != api.OK {
			t.Errorf("P8.1: Check of parties %d: %d", i, e)
		}
	}
}

func power(base, exponent int64) *big.Int {
	return new(big.Int).Exp(big.NewInt(base), big.NewInt(exponent), nil)
}

// mistake is a change of good, or several ones, and the error that it causes.
type mistake struct {
	name string
	p    api.Parties
	want api.Errno
}

// lengthMistakes returns parties that are too many, and those of which a kind is unknown.
func lengthMistakes() []mistake {
	list := []mistake{
		{"33 parties", broken(lengths(33, 1, 1)), api.ErrLong}, {"65 stakes", broken(lengths(2, 65, 1)), api.ErrLong}, {"65 ties", broken(lengths(2, 1, 65)), api.ErrLong},
		{"33 parties of no kind", api.Parties{Kinds: make([]int, 33)}, api.ErrLong}, {"65 stakes without parties", api.Parties{Stakes: make([]api.Stake, 65)}, api.ErrLong},
		{"65 ties without parties", api.Parties{Ties: make([]api.Tie, 65)}, api.ErrLong}, {"65 ties and no kind", broken(lengths(2, 1, 65), kind(0, 0)), api.ErrLong},
		{"65 ties and no party in a stake", broken(lengths(2, 1, 65), owner(0, 9)), api.ErrLong}, {"65 ties and too many votes", broken(lengths(2, 1, 65), votes(0, fraction(2, 1))), api.ErrLong},
		{"10,000 ties", broken(lengths(2, 1, 10000)), api.ErrLong}, {"65 stakes with all votes", broken(lengths(2, 65, 1), votes(64, fraction(1, 1))), api.ErrLong},
	}
	for _, k := range []int{0, 3, -1, math.MinInt, math.MaxInt} {
		list = append(list,
			mistake{"no kind of the first party", broken(kind(0, k)), api.ErrRange}, mistake{"no kind of a company", broken(kind(2, k)), api.ErrRange}, mistake{"no kind of the last party", broken(kind(4, k)), api.ErrRange},
			mistake{"no kind before no party", broken(kind(4, k), owner(0, 9)), api.ErrRange}, mistake{"no kind before too many votes", broken(kind(4, k), votes(0, fraction(2, 1))), api.ErrRange},
			mistake{"no kind before a wrong tie", broken(kind(4, k), tie(0, 9, 9)), api.ErrRange},
		)
	}
	return list
}

// stakeMistakes returns parties of which a stake is wrong.
func stakeMistakes() []mistake {
	list := []mistake{
		{"a stake in a person", broken(company(2, 1)), api.ErrParty}, {"a stake in itself", broken(owner(4, 4)), api.ErrParty}, {"a person's stake in itself", broken(owner(0, 1), company(0, 1)), api.ErrParty},
		{"a company that became a person", broken(kind(3, api.Person)), api.ErrParty}, {"stakes without parties", api.Parties{Stakes: good().Stakes}, api.ErrParty}, {"an empty stake", broken(owner(0, 0), company(0, 0), votes(0, api.Rat{})), api.ErrParty},
		{"a stake in itself without votes", broken(owner(4, 4), votes(4, api.Rat{})), api.ErrParty}, {"a stake in a person without votes", broken(company(4, 0), votes(4, fraction(-1, 2))), api.ErrParty},
		{"no party in a stake before no votes", broken(owner(1, 9), votes(2, api.Rat{})), api.ErrParty}, {"no votes before no party in a stake", broken(votes(1, api.Rat{}), owner(2, 9)), api.ErrRange},
		{"no votes before a stake in a person", broken(votes(1, fraction(-1, 3)), company(2, 1)), api.ErrRange}, {"no votes before a stake in itself", broken(votes(3, api.Rat{}), owner(4, 4)), api.ErrRange},
		{"a wrong stake and too many votes", broken(votes(0, fraction(2, 1)), owner(4, 4)), api.ErrParty}, {"a wrong stake and a wrong tie", broken(tie(0, 9, 9), votes(4, api.Rat{})), api.ErrRange},
		{"no votes and too many votes", broken(votes(0, fraction(2, 1)), votes(4, api.Rat{})), api.ErrRange}, {"negative votes that make up for too many", broken(votes(0, fraction(2, 1)), votes(1, fraction(-1, 1))), api.ErrRange},
	}
	for _, x := range ints(5) {
		for i := range good().Stakes {
			list = append(list,
				mistake{"no owner", broken(owner(i, x)), api.ErrParty}, mistake{"no company", broken(company(i, x)), api.ErrParty}, mistake{"no owner and no company", broken(owner(i, x), company(i, x)), api.ErrParty},
				mistake{"no owner and no votes", broken(owner(i, x), votes(i, api.Rat{})), api.ErrParty}, mistake{"no company and no votes", broken(company(i, x), votes(i, api.Rat{})), api.ErrParty},
			)
		}
	}
	for _, x := range append(invalid(), api.Rat{}, fraction(-1, 1), fraction(-1, 1000000), rat(new(big.Rat).SetFrac(big.NewInt(-1), power(3, 500)))) {
		list = append(list, mistake{"no votes in the first stake", broken(votes(0, x)), api.ErrRange}, mistake{"no votes in the last stake", broken(votes(4, x)), api.ErrRange})
	}
	return list
}

// sumMistakes returns parties of which the votes in a company are too many, and
// those of which a tie is wrong.
func sumMistakes() []mistake {
	little := new(big.Rat).SetFrac(big.NewInt(1), power(7, 700))
	list := []mistake{
		{"too many votes in one stake", broken(votes(4, fraction(1001, 1000))), api.ErrSum}, {"many votes in one stake", broken(votes(4, rat(new(big.Rat).SetInt(power(2, 400))))), api.ErrSum},
		{"too many votes in two stakes", broken(votes(1, fraction(334, 1000))), api.ErrSum}, {"too many votes of different owners", broken(votes(3, fraction(501, 1000))), api.ErrSum},
		{"too many votes of one owner", broken(owner(1, 0), votes(1, fraction(1, 2))), api.ErrSum}, {"a little too many votes", broken(votes(1, rat(new(big.Rat).Add(big.NewRat(1, 3), little)))), api.ErrSum},
		{"a little too many votes in one stake", broken(votes(4, rat(new(big.Rat).Add(big.NewRat(1, 1), little)))), api.ErrSum}, {"a third stake", broken(company(4, 2), votes(4, rat(little))), api.ErrSum},
		{"too many votes before a wrong tie", broken(votes(4, fraction(2, 1)), tie(0, 9, 9)), api.ErrSum}, {"too many votes in 64 stakes", broken(lengths(2, 64, 0), votes(63, fraction(938, 1000))), api.ErrSum},
	}
	for _, i := range []int{0, 1, 3} {
		for party := range 5 {
			list = append(list, mistake{"a tie with itself", broken(tie(i, party, party)), api.ErrParty})
		}
		for _, x := range ints(5) {
			list = append(list, mistake{"no A of a tie", broken(tie(i, x, 1)), api.ErrParty}, mistake{"no B of a tie", broken(tie(i, 1, x)), api.ErrParty}, mistake{"neither A nor B of a tie", broken(tie(i, x, x)), api.ErrParty})
		}
	}
	return append(list, mistake{"a tie without parties", api.Parties{Ties: []api.Tie{{A: 0, B: 1}}}, api.ErrParty}, mistake{"the last of 64 ties", broken(lengths(2, 1, 64), tie(63, 1, 2)), api.ErrParty})
}

func TestMistakes(t *testing.T) {
	for _, x := range slices.Concat(lengthMistakes(), stakeMistakes(), sumMistakes()) {
		if e := party.Check(x.p); e != x.want {
			t.Errorf("P8.1: Check of %s: %d, want %d", x.name, e, x.want)
		}
		for _, a := range []int{0, 1, 4, -1, 99, math.MinInt, math.MaxInt} {
			checkControlled(t, x.name, x.p, a, nil, x.want)
			checkCircle(t, x.name, x.p, a, nil, x.want)
			for _, b := range []int{a, 2, -1, math.MaxInt} {
				checkControls(t, x.name, x.p, a, b, false, x.want)
				checkConnected(t, x.name, x.p, a, b, false, x.want)
			}
		}
	}
}

// 64 votes of 1/64 each are all votes; with one of 1/63 they are more.
func TestManyStakesInOneCompany(t *testing.T) {
	p := broken(lengths(2, 64, 0))
	for i := range p.Stakes {
		p.Stakes[i].Votes = fraction(1, 64)
	}
	checkControlled(t, "64 stakes", p, 0, []int{1}, api.OK)
	p.Stakes[17].Votes = fraction(1, 63)
	checkControlled(t, "64 stakes with too many votes", p, 0, nil, api.ErrSum)
	p.Stakes = p.Stakes[:32]
	p.Stakes[17].Votes = fraction(1, 64)
	checkControlled(t, "32 stakes", p, 0, nil, api.OK)
	p.Stakes[17].Votes = fraction(1, 63)
	checkControlled(t, "32 stakes with a little more", p, 0, []int{1}, api.OK)
}

func checkControlled(t *testing.T, name string, p api.Parties, owner int, want []int, wantError api.Errno) {
	t.Helper()
	if got, e := party.Controlled(p, owner); !slices.Equal(got, want) || e != wantError {
		t.Errorf("P8.2: Controlled(%d) of %s: %v, %d, want %v, %d", owner, name, got, e, want, wantError)
	}
}

func checkControls(t *testing.T, name string, p api.Parties, a, b int, want bool, wantError api.Errno) {
	t.Helper()
	if got, e := party.Controls(p, a, b); got != want || e != wantError {
		t.Errorf("P8.3: Controls(%d, %d) of %s: %v, %d, want %v, %d", a, b, name, got, e, want, wantError)
	}
}

func checkConnected(t *testing.T, name string, p api.Parties, a, b int, want bool, wantError api.Errno) {
	t.Helper()
	if got, e := party.Connected(p, a, b); got != want || e != wantError {
		t.Errorf("P8.4: Connected(%d, %d) of %s: %v, %d, want %v, %d", a, b, name, got, e, want, wantError)
	}
}

func checkCircle(t *testing.T, name string, p api.Parties, a int, want []int, wantError api.Errno) {
	t.Helper()
	if got, e := party.Circle(p, a); !slices.Equal(got, want) || e != wantError {
		t.Errorf("P8.5: Circle(%d) of %s: %v, %d, want %v, %d", a, name, got, e, want, wantError)
	}
}

func TestNoParty(t *testing.T) {
	for _, p := range []api.Parties{{}, good(), example().parties(), chain(false).parties()} {
		size := len(p.Kinds)
		for _, x := range ints(size) {
			checkControlled(t, "no party", p, x, nil, api.ErrParty)
			checkCircle(t, "no party", p, x, nil, api.ErrParty)
			for _, y := range append(ints(size), 0, size-1) {
				checkControls(t, "no party", p, x, y, false, api.ErrParty)
				checkControls(t, "no party", p, y, x, false, api.ErrParty)
				checkConnected(t, "no party", p, x, y, false, api.ErrParty)
				checkConnected(t, "no party", p, y, x, false, api.ErrParty)
			}
		}
	}
}

func TestTheExample(t *testing.T) {
	p := example().parties()
	for a, want := range [][]int{{1, 2}, nil, nil, nil} {
		checkControlled(t, "the example", p, a, want, api.OK)
	}
	for a, want := range [][]int{{0, 1, 2, 3}, {0, 1, 2}, {0, 1, 2}, {0, 3}} {
		checkCircle(t, "the example", p, a, want, api.OK)
	}
}

func TestWorlds(t *testing.T) {
	for i, w := range worlds() {
		p, sets, name := w.parties(), w.controlled(), "world "+big.NewInt(int64(i)).String()
		for a := range w.kinds {
			checkControlled(t, name, p, a, members(sets[a]), api.OK)
			circle := []int{}
			for b := range w.kinds {
				connected := w.connected(sets, a, b)
				if connected {
					circle = append(circle, b)
				}
				checkControls(t, name, p, a, b, sets[a]>>b&1 == 1, api.OK)
				checkConnected(t, name, p, a, b, connected, api.OK)
			}
			checkCircle(t, name, p, a, circle, api.OK)
		}
	}
}

// Each company is held by fractions with long denominators that have no common
// divisors, and is controlled only with the last of them.
func TestLongNumbers(t *testing.T) {
	w := world{kinds: kindsOf(1, 3)}
	for i := range 48 {
		den := new(big.Int).Add(power(10, 1900), big.NewInt(int64(2*i+1)))
		num := new(big.Int).Add(new(big.Int).Quo(den, big.NewInt(32)), big.NewInt(1))
		w.stakes = append(w.stakes, stake{i % 3, 1 + i%3, new(big.Rat).SetFrac(num, den)})
	}
	for i := range w.stakes {
		if i%3 != 0 && i > 2 {
			w.stakes[i].owner = 0
		}
	}
	for a := range w.kinds {
		checkControlled(t, "long numbers", w.parties(), a, members(w.leastSet(a)), api.OK)
	}
	checkControlled(t, "long numbers", w.parties(), 0, []int{1, 2, 3}, api.OK)
	w.stakes[0].votes = new(big.Rat).Sub(w.stakes[0].votes, big.NewRat(1, 1000))
	checkControlled(t, "long numbers", w.parties(), 0, nil, api.OK)
}

func TestArgumentsAreNotModified(t *testing.T) {
	wrong := broken(votes(4, fraction(2, 1)))
	for _, p := range []api.Parties{good(), example().parties(), star().parties(), wrong} {
		before := api.Parties{Kinds: slices.Clone(p.Kinds), Stakes: slices.Clone(p.Stakes), Ties: slices.Clone(p.Ties)}
		party.Check(p)
		party.Controlled(p, 0)
		party.Controls(p, 0, 1)
		party.Connected(p, 0, 1)
		party.Circle(p, 0)
		if !reflect.DeepEqual(p, before) {
			t.Errorf("the argument is modified: %#v", p)
		}
	}
}

func TestResultsAreNew(t *testing.T) {
	p := chain(false).parties()
	for _, f := range []func(api.Parties, int) ([]int, api.Errno){party.Controlled, party.Circle} {
		first, _ := f(p, 0)
		want := slices.Clone(first)
		clear(first)
		if again, _ := f(p, 0); !slices.Equal(again, want) {
			t.Errorf("a result changes with an earlier one: %v, want %v", again, want)
		}
	}
}
