package currency_test

import (
	"math"
	"math/big"
	"slices"
	"testing"

	"insolvency/api"
	"insolvency/currency"
	"insolvency/rational"
)

// example returns the quotes of the document's example.
func example() []api.Quote {
	return []api.Quote{{Code: "USD", Day: 5, Rate: fraction(9, 10)}, {Code: "USD", Day: 2, Rate: fraction(8, 10)}}
}

// daily returns so many quotes of one currency, one a day.
func daily(size int) []api.Quote {
	list := make([]api.Quote, size)
	for i := range list {
		list[i] = api.Quote{Code: "USD", Day: i, Rate: fraction(1, int64(i+1))}
	}
	return list
}

// after returns quotes without an error, followed by the given ones.
func after(list ...api.Quote) []api.Quote {
	return append([]api.Quote{{Code: "USD", Day: 3, Rate: fraction(1, 2)}, {Code: "GBP", Day: 3, Rate: fraction(2, 1)}}, list...)
}

// invalid returns numbers that break each rule of validity.
func invalid() []api.Rat {
	return []api.Rat{
		{Neg: true}, {Den: "\x02"}, {Num: "\x00\x05"}, {Neg: true, Num: "\x00\x05"}, {Num: "\x05", Den: "\x00"}, {Num: "\x05", Den: "\x01"},
		{Neg: true, Num: "\x05", Den: "\x01"}, {Num: "\x05", Den: "\x00\x03"}, {Num: "\x06", Den: "\x04"}, {Neg: true, Num: "\x07", Den: "\x0e"},
	}
}

func checkRate(t *testing.T, quotes []api.Quote, code string, day int, want api.Rat, wantError api.Errno) {
	t.Helper()
	if got, e := currency.Rate(quotes, code, day); got != want || e != wantError {
		t.Errorf("P7.2: Rate(%q, %d) of %d quotes: %s, %d, want %s, %d", code, day, len(quotes), rational.Format(got), e, rational.Format(want), wantError)
	}
}

func checkConvert(t *testing.T, quotes []api.Quote, amount api.Rat, from, to string, day int, want api.Rat, wantError api.Errno) {
	t.Helper()
	if got, e := currency.Convert(quotes, amount, from, to, day); got != want || e != wantError {
		t.Errorf("P7.3: Convert(%s from %q to %q, %d) of %d quotes: %s, %d, want %s, %d",
			rational.Format(amount), from, to, day, len(quotes), rational.Format(got), e, rational.Format(want), wantError)
	}
}

func TestCheckOfLists(t *testing.T) {
	for i, list := range lists() {
		if e := currency.Check(quotesOf(list)); e != api.OK {
			t.Errorf("P7.1: Check of list %d: %d", i, e)
		}
	}
	for i, quotes := range [][]api.Quote{
		nil, {}, example(), daily(api.MaxQuotes),
		after(api.Quote{Code: "AZZ", Day: 0, Rate: fraction(1, 1<<62)}, api.Quote{Code: "ZAA", Day: api.MaxDays, Rate: fraction(math.MaxInt64, 1)}),
		after(api.Quote{Code: "USD", Day: 2, Rate: fraction(1, 2)}, api.Quote{Code: "CHF", Day: 3, Rate: fraction(1, 2)}),
		after(api.Quote{Code: "EUS", Day: 3, Rate: fraction(1, 2)}, api.Quote{Code: "EUS", Day: 4, Rate: fraction(1, 2)}),
	} {
		if e := currency.Check(quotes); e != api.OK {
			t.Errorf("P7.1: Check of the quotes %d: %d", i, e)
		}
	}
}

func TestCheckOfCodes(t *testing.T) {
	for _, code := range []string{
		"EUR", "", "U", "US", "USDX", "USDUSD", "usd", "eur", "Usd", "uSD", "UsD", "USd", "US1", "1SD", "U D", " USD", "USD ", "US\x00", "\x00\x00\x00",
		"@SD", "[SD", "U@D", "U[D", "US@", "US[", "US\xc4", "\xd5SD", "Ä", "ÄS", "ÄSD", "€", "\uff35\uff33\uff24",
	} {
		bad := api.Quote{Code: code, Day: 9, Rate: fraction(1, 2)}
		if e := currency.Check([]api.Quote{bad}); e != api.ErrCode {
			t.Errorf("P7.1: Check of the code %q: %d", code, e)
		}
		if e := currency.Check(after(bad)); e != api.ErrCode {
			t.Errorf("P7.1: Check of the code %q at the end: %d", code, e)
		}
		for _, worse := range []api.Quote{{Code: code, Day: -1}, {Code: code, Day: 3, Rate: fraction(-1, 2)}, {Code: code}} {
			if e := currency.Check(after(worse)); e != api.ErrCode {
				t.Errorf("P7.1: Check of %#v: %d", worse, e)
			}
		}
	}
	for first := 'A'; first <= 'Z'; first++ {
		for _, code := range []string{string(first) + "QZ", "A" + string(first) + "Q", "ZQ" + string(first)} {
			if e := currency.Check([]api.Quote{{Code: code, Rate: fraction(1, 2)}}); e != api.OK {
				t.Errorf("P7.1: Check of the code %q: %d", code, e)
			}
		}
	}
}

func TestCheckErrors(t *testing.T) {
	half, minus := fraction(1, 2), fraction(-1, 2)
	for _, x := range []struct {
		name   string
		quotes []api.Quote
		want   api.Errno
	}{
		{"a day before the first one", after(api.Quote{Code: "CHF", Day: -1, Rate: half}), api.ErrRange},
		{"the least int", after(api.Quote{Code: "CHF", Day: math.MinInt, Rate: half}), api.ErrRange},
		{"a day after the last one", after(api.Quote{Code: "CHF", Day: api.MaxDays + 1, Rate: half}), api.ErrRange},
		{"the greatest int", after(api.Quote{Code: "CHF", Day: math.MaxInt, Rate: half}), api.ErrRange},
		{"a rate of 0", after(api.Quote{Code: "CHF", Day: 3}), api.ErrRange},
		{"a negative rate", after(api.Quote{Code: "CHF", Day: 3, Rate: minus}), api.ErrRange},
		{"a rate of 0, and a day twice", after(api.Quote{Code: "USD", Day: 3}), api.ErrRange},
		{"what is no day, twice", []api.Quote{{Code: "USD", Day: -1, Rate: half}, {Code: "USD", Day: -1, Rate: half}}, api.ErrRange},
		{"a quote twice", []api.Quote{{Code: "USD", Day: 3, Rate: half}, {Code: "USD", Day: 3, Rate: half}}, api.ErrTwice},
		{"a day twice with different rates", after(api.Quote{Code: "USD", Day: 3, Rate: fraction(7, 1)}), api.ErrTwice},
		{"day 0 twice", []api.Quote{{Code: "USD", Rate: half}, {Code: "CHF", Rate: half}, {Code: "USD", Rate: half}}, api.ErrTwice},
		{"the last day twice", after(api.Quote{Code: "USD", Day: api.MaxDays, Rate: half}, api.Quote{Code: "CHF", Day: 1, Rate: half}, api.Quote{Code: "USD", Day: api.MaxDays, Rate: half}), api.ErrTwice},
		{"a day twice before what is no code", after(api.Quote{Code: "GBP", Day: 3, Rate: half}, api.Quote{Code: "EUR", Day: 3, Rate: half}), api.ErrTwice},
		{"a day twice before a rate of 0", after(api.Quote{Code: "GBP", Day: 3, Rate: half}, api.Quote{Code: "CHF", Day: 3}), api.ErrTwice},
		{"a rate of 0 before what is no code", after(api.Quote{Code: "CHF", Day: 3}, api.Quote{Code: "EUR", Day: 3, Rate: half}), api.ErrRange},
		{"a rate of 0 before its day again", after(api.Quote{Code: "CHF", Day: 3}, api.Quote{Code: "CHF", Day: 3, Rate: half}), api.ErrRange},
		{"no code before a rate of 0", after(api.Quote{Code: "EUR", Day: 3, Rate: half}, api.Quote{Code: "CHF", Day: 3}), api.ErrCode},
		{"no code before a day twice", after(api.Quote{Code: "US", Day: 3, Rate: half}, api.Quote{Code: "USD", Day: 3, Rate: half}), api.ErrCode},
		{"the first quote again as the last of 256", append(daily(255), api.Quote{Code: "USD", Day: 0, Rate: half}), api.ErrTwice},
		{"the 255th quote again as the last of 256", append(daily(255), api.Quote{Code: "USD", Day: 254, Rate: half}), api.ErrTwice},
		{"the last of 256 quotes is of the base currency", append(daily(255), api.Quote{Code: "EUR", Day: 0, Rate: half}), api.ErrCode},
		{"257 quotes", daily(257), api.ErrLong},
		{"257 quotes, the first of them without a code", append([]api.Quote{{}}, daily(256)...), api.ErrLong},
		{"257 quotes, the last of them without a day", append(daily(256), api.Quote{Code: "USD", Day: -1, Rate: half}), api.ErrLong},
		{"3,000 equal quotes", slices.Repeat(example()[:1], 3000), api.ErrLong},
	} {
		if e := currency.Check(x.quotes); e != x.want {
			t.Errorf("P7.1: Check of %s: %d, want %d", x.name, e, x.want)
		}
		checkAllRefuse(t, x.name, x.quotes, x.want)
	}
}

// checkAllRefuse reports an error unless all functions return the error of
// Check, with good and with bad other arguments.
func checkAllRefuse(t *testing.T, name string, quotes []api.Quote, want api.Errno) {
	t.Helper()
	for _, day := range []int{5, 0, -1, api.MaxDays + 1} {
		for _, code := range []string{"EUR", "USD", "XXX", ""} {
			if got, e := currency.Rate(quotes, code, day); e != want || got != (api.Rat{}) {
				t.Errorf("P7.2: Rate(%q, %d) of %s: %s, %d", code, day, name, rational.Format(got), e)
			}
			for _, to := range []string{"EUR", "USD", "XXX"} {
				if got, e := currency.Convert(quotes, fraction(5, 1), code, to, day); e != want || got != (api.Rat{}) {
					t.Errorf("P7.3: Convert(%q to %q, %d) of %s: %s, %d", code, to, day, name, rational.Format(got), e)
				}
			}
		}
	}
}

func TestRatesThatAreNotValid(t *testing.T) {
	for _, bad := range invalid() {
		quotes := after(api.Quote{Code: "CHF", Day: 3, Rate: bad})
		if e := currency.Check(quotes); e != api.ErrRange {
			t.Errorf("P7.1: Check with %#v: %d", bad, e)
		}
		checkAllRefuse(t, "a rate that is not valid", quotes, api.ErrRange)
	}
}

func TestKnownRates(t *testing.T) {
	for _, x := range []struct {
		code string
		day  int
		want api.Rat
		e    api.Errno
	}{
		{"USD", 4, fraction(4, 5), api.OK}, {"USD", 5, fraction(9, 10), api.OK}, {"USD", 1, api.Rat{}, api.ErrQuote},
		{"USD", 0, api.Rat{}, api.ErrQuote}, {"USD", 2, fraction(4, 5), api.OK}, {"USD", 3, fraction(4, 5), api.OK}, {"USD", 6, fraction(9, 10), api.OK},
		{"USD", api.MaxDays, fraction(9, 10), api.OK}, {"EUR", 0, fraction(1, 1), api.OK}, {"EUR", api.MaxDays, fraction(1, 1), api.OK},
		{"GBP", 0, api.Rat{}, api.ErrCode}, {"GBP", 5, api.Rat{}, api.ErrCode}, {"usd", 5, api.Rat{}, api.ErrCode}, {"eur", 5, api.Rat{}, api.ErrCode}, {"", 5, api.Rat{}, api.ErrCode},
	} {
		checkRate(t, example(), x.code, x.day, x.want, x.e)
		backward := example()
		slices.Reverse(backward)
		checkRate(t, backward, x.code, x.day, x.want, x.e)
	}
	checkRate(t, nil, "EUR", 7, fraction(1, 1), api.OK)
	checkRate(t, nil, "USD", 7, api.Rat{}, api.ErrCode)
}

func TestRatesOfLists(t *testing.T) {
	for _, list := range lists() {
		for _, code := range codes() {
			for _, day := range days() {
				want, e := rate(list, code, day)
				checkRate(t, quotesOf(list), code, day, rat(want), e)
			}
		}
	}
}

func TestDaysOutOfRange(t *testing.T) {
	for _, list := range lists() {
		for _, day := range []int{-1, math.MinInt, api.MaxDays + 1, math.MaxInt} {
			for _, code := range codes() {
				checkRate(t, quotesOf(list), code, day, api.Rat{}, api.ErrRange)
				checkConvert(t, quotesOf(list), fraction(5, 1), code, "EUR", day, api.Rat{}, api.ErrRange)
				checkConvert(t, quotesOf(list), fraction(5, 1), "USD", code, day, api.Rat{}, api.ErrRange)
			}
		}
	}
}

func TestKnownConversions(t *testing.T) {
	quotes := append(example(), api.Quote{Code: "GBP", Day: 3, Rate: fraction(6, 5)})
	for _, x := range []struct {
		amount   api.Rat
		from, to string
		day      int
		want     api.Rat
		e        api.Errno
	}{
		{fraction(100, 1), "USD", "EUR", 5, fraction(90, 1), api.OK}, {fraction(100, 1), "USD", "EUR", 4, fraction(80, 1), api.OK},
		{fraction(90, 1), "EUR", "USD", 5, fraction(100, 1), api.OK}, {fraction(1, 1), "EUR", "USD", 5, fraction(10, 9), api.OK},
		{fraction(12, 1), "USD", "GBP", 4, fraction(8, 1), api.OK}, {fraction(12, 1), "USD", "GBP", 5, fraction(9, 1), api.OK},
		{fraction(8, 1), "GBP", "USD", 4, fraction(12, 1), api.OK}, {fraction(-7, 3), "USD", "USD", 4, fraction(-7, 3), api.OK},
		{fraction(-7, 3), "EUR", "EUR", 0, fraction(-7, 3), api.OK}, {fraction(-12, 1), "USD", "GBP", 4, fraction(-8, 1), api.OK},
		{api.Rat{}, "USD", "GBP", 4, api.Rat{}, api.OK}, {fraction(1, 1), "USD", "GBP", 2, api.Rat{}, api.ErrQuote},
		{fraction(1, 1), "GBP", "USD", 2, api.Rat{}, api.ErrQuote}, {fraction(1, 1), "GBP", "XXX", 2, api.Rat{}, api.ErrQuote},
		{fraction(1, 1), "XXX", "GBP", 2, api.Rat{}, api.ErrCode}, {fraction(1, 1), "XXX", "XXX", 9, api.Rat{}, api.ErrCode},
		{fraction(1, 1), "EUR", "XXX", 9, api.Rat{}, api.ErrCode}, {fraction(1, 1), "EUR", "GBP", 1, api.Rat{}, api.ErrQuote},
		{fraction(1, 1), "USD", "", 9, api.Rat{}, api.ErrCode}, {api.Rat{}, "USD", "XXX", 9, api.Rat{}, api.ErrCode},
	} {
		checkConvert(t, quotes, x.amount, x.from, x.to, x.day, x.want, x.e)
	}
}

func TestConversionsOfLists(t *testing.T) {
	for i, list := range lists() {
		quotes := quotesOf(list)
		for _, from := range codes() {
			for j, to := range codes() {
				amount := amounts()[(i+j)%len(amounts())]
				for _, day := range []int{0, 3, 7, 40, 90} {
					want, e := convert(list, amount, from, to, day)
					checkConvert(t, quotes, rat(amount), from, to, day, rat(want), e)
				}
			}
		}
	}
}

func TestAmountsThatAreNotValid(t *testing.T) {
	for _, bad := range invalid() {
		for _, from := range []string{"EUR", "USD"} {
			for _, to := range []string{"EUR", "USD"} {
				checkConvert(t, example(), bad, from, to, 7, api.Rat{}, api.OK)
			}
			checkConvert(t, example(), bad, from, "XXX", 7, api.Rat{}, api.ErrCode)
		}
	}
}

func TestLongNumbers(t *testing.T) {
	long := new(big.Int).Exp(big.NewInt(10), big.NewInt(api.MaxDigits-1), nil)
	list := []quote{
		{"USD", 1, new(big.Rat).SetFrac(long, new(big.Int).Add(long, big.NewInt(1)))},
		{"GBP", 1, new(big.Rat).SetFrac(new(big.Int).Add(long, big.NewInt(3)), big.NewInt(7))},
	}
	for _, x := range [][2]string{{"USD", "EUR"}, {"EUR", "USD"}, {"USD", "GBP"}, {"GBP", "USD"}} {
		amount := new(big.Rat).SetFrac(big.NewInt(7), long)
		want, e := convert(list, amount, x[0], x[1], 1)
		checkConvert(t, quotesOf(list), rat(amount), x[0], x[1], 1, rat(want), e)
	}
}

func TestQuotesAreNotModified(t *testing.T) {
	for _, quotes := range [][]api.Quote{example(), after(api.Quote{Code: "USD", Day: 1, Rate: api.Rat{Neg: true}})} {
		before := slices.Clone(quotes)
		currency.Check(quotes)
		currency.Rate(quotes, "USD", 7)
		currency.Convert(quotes, fraction(5, 1), "USD", "GBP", 7)
		if !slices.Equal(quotes, before) {
			t.Errorf("the argument is modified: %#v", quotes)
		}
	}
}
