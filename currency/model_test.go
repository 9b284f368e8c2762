package currency_test

import (
	"math/big"
	"math/rand"

	"insolvency/api"
)

// The model calculates with math/big and goes back from day to day, so that
// the package is compared with the definitions and not with its own
// calculation.

// quote is a quote without an error.
type quote struct {
	code string
	day  int
	rate *big.Rat
}

// rat returns the api.Rat of x.
func rat(x *big.Rat) api.Rat {
	r := api.Rat{Neg: x.Sign() < 0, Num: string(x.Num().Bytes())}
	if !x.IsInt() {
		r.Den = string(x.Denom().Bytes())
	}
	return r
}

func fraction(a, b int64) api.Rat { return rat(big.NewRat(a, b)) }

func quotesOf(list []quote) []api.Quote {
	out := []api.Quote{}
	for _, x := range list {
		out = append(out, api.Quote{Code: x.code, Day: x.day, Rate: rat(x.rate)})
	}
	return out
}

// rate returns what P7.2 says of quotes without an error and of a day.
func rate(list []quote, code string, day int) (*big.Rat, api.Errno) {
	if code == "EUR" {
		return big.NewRat(1, 1), api.OK
	}
	days := map[int]*big.Rat{}
	for _, x := range list {
		if x.code == code {
			days[x.day] = x.rate
		}
	}
	if len(days) == 0 {
		return new(big.Rat), api.ErrCode
	}
	for d := day; d >= 0; d-- {
		if found, ok := days[d]; ok {
			return found, api.OK
		}
	}
	return new(big.Rat), api.ErrQuote
}

// convert returns what P7.3 says of quotes without an error and of a day.
func convert(list []quote, amount *big.Rat, from, to string, day int) (*big.Rat, api.Errno) {
	fromRate, e := rate(list, from, day)
	if e != api.OK {
		return new(big.Rat), e
	}
	toRate, e := rate(list, to, day)
	if e != api.OK {
		return new(big.Rat), e
	}
	product := new(big.Rat).Mul(amount, fromRate)
	return product.Quo(product, toRate), api.OK
}

// shifted returns 2^bits / over.
func shifted(bits uint, over int64) *big.Rat {
	return new(big.Rat).SetFrac(new(big.Int).Lsh(big.NewInt(1), bits), big.NewInt(over))
}

// lists returns quotes: none, the example of the document, those in ascending,
// descending and any order, those of the first and the last day, and as many as
// there may be. They are the same in every run.
func lists() [][]quote {
	out := [][]quote{
		nil,
		{{"USD", 5, big.NewRat(9, 10)}, {"USD", 2, big.NewRat(8, 10)}},
		{{"AAA", 0, big.NewRat(1, 3)}, {"ZZZ", api.MaxDays, big.NewRat(7, 1)}, {"AAA", api.MaxDays, big.NewRat(3, 5)}},
		{{"USD", 1, big.NewRat(1, 7)}, {"GBP", 1, big.NewRat(6, 5)}, {"USD", 2, big.NewRat(2, 7)}, {"GBP", 4, big.NewRat(6, 7)}, {"USD", 3, big.NewRat(3, 7)}, {"USD", 8, big.NewRat(1, 1)}},
		{{"USD", 9, big.NewRat(5, 4)}, {"USD", 7, big.NewRat(4, 3)}, {"CHF", 6, big.NewRat(9, 8)}, {"USD", 3, big.NewRat(3, 2)}, {"USD", 0, big.NewRat(2, 1)}},
		{{"JPY", 3, shifted(0, 1<<60)}, {"KWD", 3, shifted(150, 1000003)}, {"EUS", 3, big.NewRat(2, 1)}, {"SEU", 4, big.NewRat(1000003, 12)}},
	}
	source := rand.New(rand.NewSource(7))
	for _, size := range []int{6, 20, 60, api.MaxQuotes} {
		list := []quote{}
		for i, cell := range source.Perm(4 * 80)[:size] {
			code := []string{"USD", "GBP", "CHF", "USE"}[cell%4]
			list = append(list, quote{code, 5 + cell/4, big.NewRat(1+int64(source.Intn(500)), int64(1+(i*7)%40))})
		}
		out = append(out, list)
	}
	return out
}

func amounts() []*big.Rat {
	return []*big.Rat{
		new(big.Rat), big.NewRat(1, 1), big.NewRat(-1, 1), big.NewRat(90, 1), big.NewRat(1, 3), big.NewRat(-22, 7),
		big.NewRat(100000000007, 100), shifted(200, 1000003),
	}
}

// codes returns codes of the lists, the code of the base currency, codes that
// are not quoted, and strings that are not codes.
func codes() []string {
	return []string{"EUR", "USD", "GBP", "CHF", "USE", "AAA", "ZZZ", "JPY", "KWD", "EUS", "SEU", "XXX", "", "US", "usd", "eur", "EURO", "USDX", "EUR "}
}

// days returns days near the quotes, and the first and the last days.
func days() []int {
	return []int{0, 1, 2, 3, 4, 5, 6, 7, 8, 9, 10, 20, 40, 60, 83, 84, 85, 500, api.MaxDays - 1, api.MaxDays}
}
