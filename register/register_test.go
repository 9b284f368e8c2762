package register_test

import (
	"math"
	"slices"
	"strings"
	"testing"

	"insolvency/api"
	"insolvency/rational"
	"insolvency/register"
)

// claim returns a document of 100 dollars, incurred on day 100.
func claim(id string) api.Proof {
	return api.Proof{ID: id, Estate: 1, Creditor: 3, Code: "USD", Amount: fraction(100, 1), Incurred: 100, Rank: 2, Secured: -1}
}

// bent returns the document of the name "a" with a change.
func bent(bend func(p *api.Proof)) api.Proof {
	p := claim("a")
	bend(&p)
	return p
}

// invalid returns numbers that break each rule of validity.
func invalid() []api.Rat {
	return []api.Rat{
		{Neg: true}, {Den: "\x02"}, {Num: "\x00\x05"}, {Neg: true, Num: "\x00\x05"}, {Num: "\x05", Den: "\x00"}, {Num: "\x05", Den: "\x01"},
		{Neg: true, Num: "\x05", Den: "\x01"}, {Num: "\x05", Den: "\x00\x03"}, {Num: "\x06", Den: "\x04"}, {Neg: true, Num: "\x07", Den: "\x0e"},
	}
}

func TestNew(t *testing.T) {
	for _, days := range [][2]int{{0, 0}, {100, 200}, {200, 100}, {0, api.MaxDays}, {api.MaxDays, 0}, {api.MaxDays, api.MaxDays}} {
		got, errno := register.New(days[0], days[1])
		if want := (api.Register{CutOff: days[0], Bar: days[1]}); !same(got, want) || errno != api.OK {
			t.Errorf("P10.1: New(%d, %d): %s, %d", days[0], days[1], show(got), errno)
		}
	}
	for _, bad := range []int{-1, api.MaxDays + 1, math.MinInt, math.MaxInt, 1 << 32} {
		for _, days := range [][2]int{{bad, 5}, {5, bad}, {bad, bad}} {
			if got, errno := register.New(days[0], days[1]); !isEmpty(got) || errno != api.ErrRange {
				t.Errorf("P10.1: New(%d, %d): %s, %d", days[0], days[1], show(got), errno)
			}
		}
	}
}

func checkValue(t *testing.T, name string, p api.Proof, cutOff int, want api.Rat) {
	t.Helper()
	if got, errno := register.Value(p, cutOff, quotes()); got != want || errno != api.OK {
		t.Errorf("P10.2: Value of %s on day %d: %s, %d, want %s", name, cutOff, rational.Format(got), errno, rational.Format(want))
	}
}

func TestKnownValues(t *testing.T) {
	tenth := fraction(1, 10)
	for _, x := range []struct {
		name   string
		bend   func(p *api.Proof)
		cutOff int
		want   api.Rat
	}{
		{"dollars without interest, on the day of the claim", func(p *api.Proof) {}, 100, fraction(90, 1)},
		{"dollars without interest, later", func(p *api.Proof) {}, 299, fraction(90, 1)},
		{"dollars at the next rate", func(p *api.Proof) {}, 300, fraction(75, 1)},
		{"euros", func(p *api.Proof) { p.Code = "EUR" }, 300, fraction(100, 1)},
		{"nothing", func(p *api.Proof) { p.Amount, p.Rate = api.Rat{}, tenth }, 300, api.Rat{}},
		{"interest of no days", func(p *api.Proof) { p.Rate, p.RateFrom = tenth, 100 }, 100, fraction(90, 1)},
		{"interest from the day after", func(p *api.Proof) { p.Rate, p.RateFrom = tenth, 101 }, 100, fraction(90, 1)},
		{"interest from the last day on", func(p *api.Proof) { p.Rate, p.RateFrom = tenth, api.MaxDays }, 100, fraction(90, 1)},
		{"interest of a day", func(p *api.Proof) { p.Code, p.Rate, p.RateFrom = "EUR", fraction(73, 10), 100 }, 101, fraction(102, 1)},
		{"interest of 73 days", func(p *api.Proof) { p.Rate, p.RateFrom = tenth, 27 }, 100, fraction(459, 5)},
		{"interest from day 0 on", func(p *api.Proof) { p.Code, p.Rate = "EUR", tenth }, 365, fraction(110, 1)},
		{"interest of two years, which is not compound", func(p *api.Proof) { p.Code, p.Rate, p.RateFrom = "EUR", tenth, 100 }, 830, fraction(120, 1)},
		{"interest of all days", func(p *api.Proof) { p.Code, p.Amount, p.Rate, p.Incurred = "EUR", fraction(365, 1), tenth, 0 }, api.MaxDays, fraction(365*10+api.MaxDays, 10)},
	} {
		checkValue(t, x.name, bent(x.bend), x.cutOff, x.want)
	}
}

func TestValuesOfTheModel(t *testing.T) {
	for _, code := range []string{"EUR", "USD", "GBP", "JPY"} {
		for i, amount := range []api.Rat{{}, fraction(1, 1), fraction(1000, 7), fraction(100000000007, 100)} {
			for _, rate := range []api.Rat{{}, fraction(1, 20), fraction(3, 700), fraction(5, 1)} {
				for _, from := range []int{0, 99, 100, 149, 150, 151, 299, 300, 301, 700, 5000} {
					p := claim("a")
					p.Code, p.Amount, p.Rate, p.RateFrom = code, amount, rate, from
					if rate == (api.Rat{}) {
						p.RateFrom = 0
					}
					for _, cutOff := range []int{150, 151, 299, 300, 301, 700 + i} {
						checkValue(t, code, p, cutOff, rat(modelValue(p, cutOff)))
					}
				}
			}
		}
	}
}

// mistake is a change by which Value returns an error. The mistakes of a
// smaller stage are found first.
type mistake struct {
	name  string
	stage int
	bend  func(x *arguments)
	want  api.Errno
}

// arguments are those of Value.
type arguments struct {
	p      api.Proof
	cutOff int
	quotes []api.Quote
}

func mistakes() []mistake {
	return []mistake{
		{"no ID", 1, func(x *arguments) { x.p.ID = "" }, api.ErrName},
		{"a wrong estate", 2, func(x *arguments) { x.p.Estate = 8 }, api.ErrRange},
		{"a wrong creditor", 2, func(x *arguments) { x.p.Creditor = -1 }, api.ErrRange},
		{"no code", 3, func(x *arguments) { x.p.Code = "usd" }, api.ErrCode},
		{"a negative amount", 4, func(x *arguments) { x.p.Amount = fraction(-1, 9) }, api.ErrNegative},
		{"a negative day of the claim", 5, func(x *arguments) { x.p.Incurred = -1 }, api.ErrRange},
		{"a wrong rank", 5, func(x *arguments) { x.p.Rank = 8 }, api.ErrRange},
		{"a negative rate", 6, func(x *arguments) { x.p.Rate = fraction(-1, 9) }, api.ErrNegative},
		{"a wrong day of the rate", 7, func(x *arguments) { x.p.RateFrom = -1 }, api.ErrRange},
		{"a wrong item", 7, func(x *arguments) { x.p.Secured = -2 }, api.ErrRange},
		{"a negative cut-off day", 8, func(x *arguments) { x.cutOff = -1 }, api.ErrRange},
		{"the least int as cut-off day", 8, func(x *arguments) { x.cutOff = math.MinInt }, api.ErrRange},
		{"a cut-off day after the last one", 8, func(x *arguments) { x.cutOff = api.MaxDays + 1 }, api.ErrRange},
		{"the greatest int as cut-off day", 8, func(x *arguments) { x.cutOff = math.MaxInt }, api.ErrRange},
		{"a claim of the day after", 9, func(x *arguments) { x.p.Incurred = min(max(x.cutOff, 0)+1, api.MaxDays) }, api.ErrLate},
		{"a claim of the last day", 9, func(x *arguments) { x.p.Incurred = api.MaxDays }, api.ErrLate},
		{"too many quotes", 10, func(x *arguments) { x.quotes = make([]api.Quote, 257) }, api.ErrLong},
		{"a quote of the base currency", 11, func(x *arguments) { x.quotes = append(quotes(), api.Quote{Code: "EUR", Rate: fraction(1, 1)}) }, api.ErrCode},
		{"a rate of nothing", 11, func(x *arguments) { x.quotes = append(quotes(), api.Quote{Code: "CHF"}) }, api.ErrRange},
		{"a quote twice", 11, func(x *arguments) { x.quotes = append(quotes(), quotes()[3]) }, api.ErrTwice},
		{"a currency without quotes", 12, func(x *arguments) { x.p.Code = "CHF" }, api.ErrCode},
		{"a currency without quotes before the day", 12, func(x *arguments) { x.p.Code = "GBP" }, api.ErrQuote},
	}
}

func checkMistake(t *testing.T, name string, x arguments, want api.Errno) {
	t.Helper()
	got, errno := register.Value(x.p, x.cutOff, x.quotes)
	if got != (api.Rat{}) || errno != want {
		t.Errorf("P10.2: Value with %s: %s, %d, want %d", name, rational.Format(got), errno, want)
	}
	r := api.Register{CutOff: x.cutOff, Bar: 200}
	out, errno := register.Apply(r, api.RegisterEvent{Kind: api.EvFile, Day: 130, Proof: x.p}, x.quotes)
	if !isEmpty(out) || errno != want {
		t.Errorf("P10.4: EvFile with %s: %s, %d, want %d", name, show(out), errno, want)
	}
}

// Of two mistakes, the one that is checked first counts.
func TestMistakes(t *testing.T) {
	for _, first := range mistakes() {
		x := arguments{claim("a"), 149, quotes()}
		first.bend(&x)
		checkMistake(t, first.name, x, first.want)
		for _, second := range mistakes() {
			if first.stage >= second.stage {
				continue
			}
			x := arguments{claim("a"), 149, quotes()}
			second.bend(&x)
			first.bend(&x)
			checkMistake(t, first.name+" and "+second.name, x, first.want)
		}
	}
}

// Quotes are checked for claims in the base currency too.
func TestQuotesOfEuroClaims(t *testing.T) {
	euros := bent(func(p *api.Proof) { p.Code = "EUR" })
	if got, errno := register.Value(euros, 149, make([]api.Quote, 257)); got != (api.Rat{}) || errno != api.ErrLong {
		t.Errorf("P10.2: Value of euros with too many quotes: %s, %d", rational.Format(got), errno)
	}
	if got, errno := register.Value(euros, 149, nil); got != fraction(100, 1) || errno != api.OK {
		t.Errorf("P10.2: Value of euros without quotes: %s, %d", rational.Format(got), errno)
	}
}

func TestInvalidNumbersInDocuments(t *testing.T) {
	for _, bad := range invalid() {
		checkValue(t, "an invalid amount", bent(func(p *api.Proof) { p.Amount, p.Rate = bad, fraction(1, 10) }), 149, api.Rat{})
		checkValue(t, "an invalid rate", bent(func(p *api.Proof) { p.Rate = bad }), 149, fraction(90, 1))
		checkMistake(t, "a day of an invalid rate", arguments{bent(func(p *api.Proof) { p.Rate, p.RateFrom = bad, 1 }), 149, quotes()}, api.ErrRange)
	}
}

func TestFind(t *testing.T) {
	r := api.Register{}
	for _, id := range []string{"b", "a", "", "a", "A", "b", "ab"} {
		r.Entries = append(r.Entries, api.Entry{Proof: api.Proof{ID: id}, State: api.StWithdrawn})
	}
	for id, want := range map[string]int{"b": 0, "a": 1, "": 2, "A": 4, "ab": 6} {
		if got, ok := register.Find(r, id); got != want || !ok {
			t.Errorf("P10.3: Find(%q): %d, %v", id, got, ok)
		}
	}
	for _, id := range []string{"c", "B", "aa", "a ", " a", "a\x00", strings.Repeat("a", 1000)} {
		if got, ok := register.Find(r, id); got != 0 || ok {
			t.Errorf("P10.3: Find(%q): %d, %v", id, got, ok)
		}
	}
	if got, ok := register.Find(api.Register{}, ""); got != 0 || ok {
		t.Errorf("P10.3: Find in no entries: %d, %v", got, ok)
	}
}

func TestRank(t *testing.T) {
	for rank, late := range map[int]int{math.MinInt: 4, -1: 4, 0: 4, 1: 4, 2: 4, 3: 4, 4: 4, 5: 5, 6: 6, 7: 7, 8: 8, math.MaxInt: math.MaxInt} {
		for state := 0; state <= 8; state++ {
			x := api.Entry{Proof: api.Proof{Rank: rank}, State: state}
			if got := register.Rank(x); got != rank {
				t.Errorf("P10.3: Rank of a claim of the rank %d: %d", rank, got)
			}
			x.Late = true
			if got := register.Rank(x); got != late {
				t.Errorf("P10.3: Rank of a late claim of the rank %d: %d", rank, got)
			}
		}
	}
}

func TestAgainst(t *testing.T) {
	r := api.Register{}
	for _, x := range [][2]int{{2, 1}, {0, 2}, {2, 3}, {2, 7}, {2, 4}, {1, 7}, {2, 5}, {2, 6}, {-1, 1}, {2, 0}, {2, 8}, {2, 7}} {
		r.Entries = append(r.Entries, api.Entry{Proof: api.Proof{Estate: x[0]}, State: x[1]})
	}
	for estate, want := range map[int][]int{0: {1}, 1: {}, 2: {0, 2, 4, 6, 7, 9, 10}, 3: {}, -1: {8}, math.MinInt: {}, math.MaxInt: {}} {
		if got := register.Against(r, estate); !slices.Equal(got, want) {
			t.Errorf("P10.3: Against(%d): %v, want %v", estate, got, want)
		}
	}
	if got := register.Against(api.Register{}, 0); len(got) != 0 {
		t.Errorf("P10.3: Against in no entries: %v", got)
	}
}
