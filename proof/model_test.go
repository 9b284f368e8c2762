package proof_test

import (
	"fmt"
	"math/big"
	"math/rand"
	"regexp"
	"slices"
	"strings"

	"insolvency/api"
	"insolvency/rational"
)

// The model takes the form of lines and numbers from regular expressions, and
// calculates with math/big. So the package is not compared with its own
// reading.

var (
	names     = regexp.MustCompile(`^[A-Za-z][-A-Za-z0-9_]{0,31}$`)
	codes     = regexp.MustCompile(`^[A-Z]{3}$`)
	numbers   = regexp.MustCompile(`^-?(0|[1-9][0-9]*)(\.[0-9]+|/(0|[1-9][0-9]*))?$`)
	sequences = regexp.MustCompile(`[0-9]+`)
	forms     = grammar()
)

// form is the form of a line, and those that may follow it.
type form struct {
	words *regexp.Regexp
	next  []string
}

// grammar returns the form of each line by its keyword, and that of what is
// before the first line, by an empty one.
func grammar() map[string]form {
	const n = `(0|[1-9][0-9]{0,8})`
	of := func(words string, next ...string) form {
		return form{regexp.MustCompile("^" + words + "\n$"), next}
	}
	return map[string]form{
		"":         of("", "proof"),
		"proof":    of("proof ([^ \n]*)", "estate"),
		"estate":   of("estate "+n, "creditor"),
		"creditor": of("creditor "+n, "amount"),
		"amount":   of("amount ([^ \n]*) ([^ \n]*)", "incurred"),
		"incurred": of("incurred "+n, "rank"),
		"rank":     of("rank "+n, "proof", "interest", "secured"),
		"interest": of("interest ([^ \n]*) from "+n, "proof", "secured"),
		"secured":  of("secured "+n, "proof"),
	}
}

// modelNumber returns what the document says of a word N up to last.
func modelNumber(word string, last int) (int, api.Errno) {
	n := 0
	fmt.Sscan(word, &n)
	if n > last {
		return 0, api.ErrRange
	}
	return n, api.OK
}

// modelQuantity returns what the document says of a word R.
func modelQuantity(word string) (api.Rat, api.Errno) {
	if !numbers.MatchString(word) {
		return api.Rat{}, api.ErrNumber
	}
	for _, digits := range sequences.FindAllString(word, -1) {
		if len(digits) > api.MaxDigits {
			return api.Rat{}, api.ErrLong
		}
	}
	if strings.HasSuffix(word, "/0") {
		return api.Rat{}, api.ErrRange
	}
	x, _ := new(big.Rat).SetString(word)
	if x.Sign() < 0 {
		return api.Rat{}, api.ErrNegative
	}
	return rat(x), api.OK
}

// modelLine does what the document says of a line that may follow the one
// before it, after the given documents.
func modelLine(list []api.Proof, keyword string, words []string) ([]api.Proof, api.Errno) {
	if keyword == "proof" {
		id := words[0]
		switch {
		case !names.MatchString(id):
			return nil, api.ErrName
		case slices.ContainsFunc(list, func(p api.Proof) bool { return p.ID == id }):
			return nil, api.ErrTwice
		case len(list) == 64:
			return nil, api.ErrLong
		}
		return append(list, api.Proof{ID: id, Secured: -1}), api.OK
	}
	p, e := &list[len(list)-1], api.OK
	switch keyword {
	case "estate":
		p.Estate, e = modelNumber(words[0], 7)
	case "creditor":
		p.Creditor, e = modelNumber(words[0], 31)
	case "amount":
		p.Code = words[0]
		p.Amount, e = modelQuantity(words[1])
		if !codes.MatchString(words[0]) {
			e = api.ErrCode
		}
	case "incurred":
		p.Incurred, e = modelNumber(words[0], 1<<20)
	case "rank":
		p.Rank, e = modelNumber(words[0], 7)
	case "interest":
		p.Rate, e = modelQuantity(words[0])
		if e == api.OK && p.Rate == (api.Rat{}) {
			e = api.ErrRange
		}
		if e == api.OK {
			p.RateFrom, e = modelNumber(words[1], 1<<20)
		}
	case "secured":
		p.Secured, e = modelNumber(words[0], 7)
	}
	return list, e
}

// modelParse returns what P9.3 says of a text.
func modelParse(text string) ([]api.Proof, int, api.Errno) {
	lines := strings.SplitAfter(text, "\n")
	if lines[len(lines)-1] == "" {
		lines = lines[:len(lines)-1]
	}
	if len(text) > 8192 || len(lines) > 512 {
		return nil, 0, api.ErrLong
	}
	list, last := []api.Proof(nil), ""
	for i, line := range lines {
		keyword, words := "", []string(nil)
		for _, next := range forms[last].next {
			if found := forms[next].words.FindStringSubmatch(line); found != nil {
				keyword, words = next, found[1:]
			}
		}
		if keyword == "" {
			return nil, i + 1, api.ErrSyntax
		}
		e := api.OK
		if list, e = modelLine(list, keyword, words); e != api.OK {
			return nil, i + 1, e
		}
		last = keyword
	}
	if last != "" && !slices.Contains(forms[last].next, "proof") {
		return nil, len(lines) + 1, api.ErrSyntax
	}
	return list, 0, api.OK
}

// modelFormat returns the text for documents without an error.
func modelFormat(list []api.Proof) string {
	text := ""
	for _, p := range list {
		text += fmt.Sprintf("proof %s\nestate %d\ncreditor %d\namount %s %s\nincurred %d\nrank %d\n",
			p.ID, p.Estate, p.Creditor, p.Code, number(p.Amount).RatString(), p.Incurred, p.Rank)
		if number(p.Rate).Sign() != 0 {
			text += fmt.Sprintf("interest %s from %d\n", number(p.Rate).RatString(), p.RateFrom)
		}
		if p.Secured != -1 {
			text += fmt.Sprintf("secured %d\n", p.Secured)
		}
	}
	return text
}

// rat returns the api.Rat of x.
func rat(x *big.Rat) api.Rat {
	r := api.Rat{Neg: x.Sign() < 0, Num: string(x.Num().Bytes())}
	if !x.IsInt() {
		r.Den = string(x.Denom().Bytes())
	}
	return r
}

// number returns the number that r represents; one that is not valid is 0.
func number(r api.Rat) *big.Rat {
	if !rational.Valid(r) {
		return new(big.Rat)
	}
	num, den := new(big.Int).SetBytes([]byte(r.Num)), big.NewInt(1)
	if r.Den != "" {
		den.SetBytes([]byte(r.Den))
	}
	if r.Neg {
		num.Neg(num)
	}
	return new(big.Rat).SetFrac(num, den)
}

func fraction(a, b int64) api.Rat { return rat(big.NewRat(a, b)) }

// nines returns the number of so many digits 9.
func nines(digits int) api.Rat {
	x, _ := new(big.Int).SetString(strings.Repeat("9", digits), 10)
	return rat(new(big.Rat).SetInt(x))
}

// good returns documents without an error.
func good() []api.Proof {
	return []api.Proof{
		{ID: "a-1_B", Creditor: 31, Code: "EUR", Amount: fraction(7, 2), Rank: 7, Secured: -1},
		{ID: "b", Estate: 7, Code: "USD", Amount: fraction(100, 1), Incurred: api.MaxDays, Rate: fraction(1, 20), RateFrom: 12, Secured: 7},
		{ID: "Z", Estate: 3, Creditor: 5, Code: "AZQ", Incurred: 99, Rank: 2, Rate: fraction(13, 4), Secured: -1},
		{ID: strings.Repeat("x9", 16), Estate: 1, Creditor: 17, Code: "ZZZ", Amount: fraction(1, 1<<62), Incurred: 1, Rank: 1, Secured: 0},
	}
}

// goodText returns the text for the documents of good.
func goodText() string {
	return "proof a-1_B\nestate 0\ncreditor 31\namount EUR 7/2\nincurred 0\nrank 7\n" +
		"proof b\nestate 7\ncreditor 0\namount USD 100\nincurred 1048576\nrank 0\ninterest 1/20 from 12\nsecured 7\n" +
		"proof Z\nestate 3\ncreditor 5\namount AZQ 0\nincurred 99\nrank 2\ninterest 13/4 from 0\n" +
		"proof x9x9x9x9x9x9x9x9x9x9x9x9x9x9x9x9\nestate 1\ncreditor 17\namount ZZZ 1/4611686018427387904\nincurred 1\nrank 1\nsecured 0\n"
}

// pick returns one of the elements.
func pick[T any](source *rand.Rand, list ...T) T {
	return list[source.Intn(len(list))]
}

// randomProof returns a document without an error.
func randomProof(source *rand.Rand, id string) api.Proof {
	long := new(big.Int).Rand(source, new(big.Int).Lsh(big.NewInt(1), 300))
	p := api.Proof{
		ID:       id,
		Estate:   source.Intn(8),
		Creditor: source.Intn(32),
		Code:     pick(source, "EUR", "USD", "AAA", "ZZZ", "QAZ"),
		Amount:   pick(source, api.Rat{}, fraction(1+source.Int63n(1000), 1+source.Int63n(20)), rat(new(big.Rat).SetFrac(long, big.NewInt(1+source.Int63n(1000))))),
		Incurred: pick(source, 0, api.MaxDays, source.Intn(api.MaxDays)),
		Rank:     source.Intn(8),
		Secured:  source.Intn(9) - 1,
	}
	if source.Intn(2) == 0 {
		p.Rate = fraction(1+source.Int63n(30), 1+source.Int63n(100))
		p.RateFrom = pick(source, 0, api.MaxDays, source.Intn(api.MaxDays))
	}
	return p
}

// randomList returns so many documents without an error.
func randomList(source *rand.Rand, size int) []api.Proof {
	list := []api.Proof{}
	for i := range size {
		name := fmt.Sprintf("%c%02d", pick(source, 'a', 'z', 'A', 'Z'), i)
		for source.Intn(3) > 0 {
			name += string(pick(source, '-', '_', '0', '9', 'm', 'M'))
		}
		list = append(list, randomProof(source, name[:min(len(name), 32)]))
	}
	return list
}
