package proof_test

import (
	"fmt"
	"math"
	"strings"
	"testing"

	"insolvency/api"
	"insolvency/proof"
)

func TestNames(t *testing.T) {
	list := []string{"EUR", "a-", "a_", "a--__", "A0", "a\n", "\na", "a b", " a", "a ", "a.b", "ä", "aä", "a\xff", "\xffa", "a\x00", "\u0430", "a\u0660", "a/b", "-", "_", "0"}
	for length := range 70 {
		list = append(list, strings.Repeat("q", length), strings.Repeat("Z-9", length), strings.Repeat("q", length)+"é")
	}
	for b := range 256 {
		s := string([]byte{byte(b)})
		list = append(list, s, s+"a", "a"+s, "a"+s+"a", strings.Repeat("a", 31)+s, s+strings.Repeat("a", 31))
	}
	for _, s := range list {
		if got, want := proof.IsName(s), names.MatchString(s); got != want {
			t.Errorf("P9.1: IsName(%q): %v, want %v", s, got, want)
		}
	}
}

// mistake bends a field such that it has an error. The fields of a smaller
// stage are checked first.
type mistake struct {
	name  string
	stage int
	bend  func(p *api.Proof)
	want  api.Errno
}

// numberMistakes returns those of fields that are numbers of the type int.
func numberMistakes() []mistake {
	list := []mistake{}
	for _, f := range []struct {
		name        string
		stage       int
		least, last int
		field       func(p *api.Proof) *int
	}{
		{"Estate", 2, 0, 7, func(p *api.Proof) *int { return &p.Estate }},
		{"Creditor", 2, 0, 31, func(p *api.Proof) *int { return &p.Creditor }},
		{"Incurred", 5, 0, 1 << 20, func(p *api.Proof) *int { return &p.Incurred }},
		{"Rank", 5, 0, 7, func(p *api.Proof) *int { return &p.Rank }},
		{"RateFrom", 7, 0, 1 << 20, func(p *api.Proof) *int { return &p.RateFrom }},
		{"Secured", 7, -1, 7, func(p *api.Proof) *int { return &p.Secured }},
	} {
		for _, n := range []int{math.MinInt, math.MinInt32, f.least - 1, f.last + 1, 1 << 32, 1<<32 + f.last, math.MaxInt} {
			list = append(list, mistake{fmt.Sprint(f.name, " ", n), f.stage, func(p *api.Proof) { *f.field(p) = n }, api.ErrRange})
		}
	}
	return list
}

// mistakes returns those of all fields.
func mistakes() []mistake {
	list := numberMistakes()
	for _, s := range []string{"", "9a", "-", "a b", "a.", "é", "a\n", strings.Repeat("a", 33)} {
		list = append(list, mistake{fmt.Sprintf("ID %q", s), 1, func(p *api.Proof) { p.ID = s }, api.ErrName})
	}
	for _, s := range []string{"", "E", "EU", "EURO", "eur", "EUr", "eUR", "EU1", "EU ", " EU", "E U", "ÄU", "EU\n", "EU\xff", "@UR", "E[R", "EU`"} {
		list = append(list, mistake{fmt.Sprintf("Code %q", s), 3, func(p *api.Proof) { p.Code = s }, api.ErrCode})
	}
	minus := nines(700)
	minus.Neg = true
	for _, r := range []api.Rat{fraction(-1, 1), fraction(-1, 1<<62), fraction(math.MinInt64, 3), minus} {
		list = append(list,
			mistake{"a negative Amount", 4, func(p *api.Proof) { p.Amount = r }, api.ErrNegative},
			mistake{"a negative Rate", 6, func(p *api.Proof) { p.Rate = r }, api.ErrNegative})
	}
	return append(list, mistake{"a day without a Rate", 7, func(p *api.Proof) { p.Rate, p.RateFrom = api.Rat{}, 1 }, api.ErrRange})
}

func checkCheck(t *testing.T, name string, p api.Proof, want api.Errno) {
	t.Helper()
	if e := proof.Check(p); e != want {
		t.Errorf("P9.2: Check of %s: %d, want %d", name, e, want)
	}
	if text, e := proof.Format([]api.Proof{p}); e != want || (text == "") != (want != api.OK) {
		t.Errorf("P9.4: Format of %s: %q, %d, want %d", name, text, e, want)
	}
}

func TestMistakes(t *testing.T) {
	for _, x := range mistakes() {
		for i, p := range good() {
			x.bend(&p)
			checkCheck(t, fmt.Sprintf("document %d with %s", i, x.name), p, x.want)
		}
	}
}

// Of two mistakes, the one that is checked first counts.
func TestOrderOfMistakes(t *testing.T) {
	list := mistakes()
	for _, first := range list {
		for _, second := range list {
			if first.stage >= second.stage {
				continue
			}
			p := good()[1]
			second.bend(&p)
			first.bend(&p)
			checkCheck(t, first.name+" and "+second.name, p, first.want)
		}
	}
}

func TestCheckOfGoodDocuments(t *testing.T) {
	for i, p := range good() {
		checkCheck(t, fmt.Sprint("document ", i), p, api.OK)
	}
	base := good()[1]
	for name, bend := range map[string]func(p *api.Proof){
		"the least numbers": func(p *api.Proof) {
			p.Estate, p.Creditor, p.Incurred, p.Rank, p.RateFrom, p.Secured = 0, 0, 0, 0, 0, -1
		},
		"the greatest numbers": func(p *api.Proof) {
			p.Estate, p.Creditor, p.Incurred, p.Rank, p.RateFrom, p.Secured = 7, 31, 1<<20, 7, 1<<20, 7
		},
		"no amount":                   func(p *api.Proof) { p.Amount = api.Rat{} },
		"no rate":                     func(p *api.Proof) { p.Rate, p.RateFrom = api.Rat{}, 0 },
		"a rate from before the debt": func(p *api.Proof) { p.RateFrom, p.Incurred = 5, 6 },
		"a very small rate":           func(p *api.Proof) { p.Rate = fraction(1, 1<<62) },
		"a rate of more than 1":       func(p *api.Proof) { p.Rate = nines(500) },
		"a name of a letter":          func(p *api.Proof) { p.ID = "Q" },
		"a keyword as a name":         func(p *api.Proof) { p.ID = "proof" },
	} {
		p := base
		bend(&p)
		checkCheck(t, name, p, api.OK)
	}
	for first := 'A'; first <= 'Z'; first++ {
		for _, code := range []string{string(first) + "QZ", "A" + string(first) + "Q", "ZQ" + string(first)} {
			p := base
			p.Code = code
			checkCheck(t, "the code "+code, p, api.OK)
		}
	}
}

// invalid returns numbers that break each rule of validity.
func invalid() []api.Rat {
	return []api.Rat{
		{Neg: true}, {Den: "\x02"}, {Neg: true, Den: "\x02"}, {Num: "\x00"}, {Num: "\x00\x05"}, {Neg: true, Num: "\x00\x05"}, {Num: "\x05", Den: "\x00"},
		{Neg: true, Num: "\x05", Den: "\x01"}, {Neg: true, Num: "\x05", Den: "\x00\x03"}, {Num: "\x06", Den: "\x04"}, {Neg: true, Num: "\x07", Den: "\x0e"},
		{Num: "\x00" + strings.Repeat("\xff", 10000)}, {Neg: true, Num: "\x00" + strings.Repeat("\xff", 10000)},
	}
}

// Numbers that are not valid count as 0.
func TestInvalidNumbers(t *testing.T) {
	for i, r := range invalid() {
		name := fmt.Sprint("the invalid number ", i)
		p := good()[1]
		p.Amount = r
		checkCheck(t, name+" as Amount", p, api.OK)
		checkFormat(t, name+" as Amount", []api.Proof{p})
		p.Rate = r
		checkCheck(t, name+" as Rate with a day", p, api.ErrRange)
		p.RateFrom = 0
		checkCheck(t, name+" as Rate", p, api.OK)
		checkFormat(t, name+" as Rate", []api.Proof{p})
	}
}
