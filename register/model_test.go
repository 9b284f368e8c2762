package register_test

import (
	"fmt"
	"math/big"
	"slices"

	"insolvency/api"
	"insolvency/rational"
)

// The model calculates with math/big, goes from day to day, and takes the
// events from a table like that of the document. So the package is compared
// with the definitions and not with its own calculation.

// rat returns the api.Rat of x.
func rat(x *big.Rat) api.Rat {
	r := api.Rat{Neg: x.Sign() < 0, Num: string(x.Num().Bytes())}
	if !x.IsInt() {
		r.Den = string(x.Denom().Bytes())
	}
	return r
}

func fraction(a, b int64) api.Rat { return rat(big.NewRat(a, b)) }

// number returns what a valid number represents.
func number(r api.Rat) *big.Rat {
	num, den := new(big.Int).SetBytes([]byte(r.Num)), big.NewInt(1)
	if r.Den != "" {
		den.SetBytes([]byte(r.Den))
	}
	if r.Neg {
		num.Neg(num)
	}
	return new(big.Rat).SetFrac(num, den)
}

// quotes are the exchange rates of these tests.
func quotes() []api.Quote {
	return []api.Quote{
		{Code: "USD", Day: 300, Rate: fraction(3, 4)}, {Code: "USD", Day: 50, Rate: fraction(9, 10)},
		{Code: "GBP", Day: 150, Rate: fraction(6, 5)}, {Code: "JPY", Day: 0, Rate: fraction(1, 163)},
	}
}

// modelValue returns what P10.2 says of a claim without an error.
func modelValue(p api.Proof, cutOff int) *big.Rat {
	rates := map[string]*big.Rat{"EUR": big.NewRat(1, 1), "JPY": big.NewRat(1, 163), "USD": big.NewRat(9, 10)}
	if cutOff >= 150 {
		rates["GBP"] = big.NewRat(6, 5)
	}
	if cutOff >= 300 {
		rates["USD"] = big.NewRat(3, 4)
	}
	principal := new(big.Rat).Mul(number(p.Amount), rates[p.Code])
	daily := new(big.Rat).Mul(principal, number(p.Rate))
	daily.Quo(daily, big.NewRat(365, 1))
	value := new(big.Rat).Set(principal)
	for day := p.RateFrom; day < cutOff; day++ {
		value.Add(value, daily)
	}
	return value
}

// The kinds of events and the states, in the order of their numbers.
var (
	kindNames  = []string{"", "EvFile", "EvAdmit", "EvDispute", "EvDecide", "EvAppeal", "EvRevise", "EvWithdraw", "EvAssign", "EvLapse"}
	stateNames = []string{"", "filed", "admitted", "disputed", "decided", "appealed", "final", "withdrawn"}
)

// row is a row of the table of P10.4. The bounds of Amount and the sources of
// the three numbers are written as words.
type row struct {
	states                   []string
	least, most              string
	next                     string
	floor, admitted, ceiling string
}

// table returns the table of P10.4. Without a next state, the state remains.
func table() map[string]row {
	return map[string]row{
		"EvAdmit":    {[]string{"filed"}, "", "", "admitted", "ceiling", "ceiling", "ceiling"},
		"EvDispute":  {[]string{"filed"}, "zero", "ceiling", "disputed", "amount", "amount", "ceiling"},
		"EvDecide":   {[]string{"disputed"}, "floor", "ceiling", "decided", "floor", "amount", "ceiling"},
		"EvAppeal":   {[]string{"decided"}, "", "", "appealed", "floor", "admitted", "ceiling"},
		"EvRevise":   {[]string{"appealed"}, "floor", "ceiling", "final", "amount", "amount", "amount"},
		"EvLapse":    {[]string{"decided"}, "", "", "final", "admitted", "admitted", "admitted"},
		"EvWithdraw": {[]string{"filed", "admitted", "disputed", "decided", "appealed"}, "", "", "withdrawn", "zero", "zero", "zero"},
		"EvAssign":   {[]string{"filed", "admitted", "disputed", "decided", "appealed", "final"}, "", "", "", "floor", "admitted", "ceiling"},
	}
}

// modelChange returns what P10.4 says of an event of an entry, if its day has
// no error. All numbers are valid.
func modelChange(x api.Entry, e api.RegisterEvent) (api.Entry, api.Errno) {
	rule := table()[kindNames[e.Kind]]
	if x.State < 1 || x.State > 7 || !slices.Contains(rule.states, stateNames[x.State]) {
		return api.Entry{}, api.ErrState
	}
	numbers := map[string]api.Rat{"zero": {}, "amount": e.Amount, "floor": x.Floor, "admitted": x.Admitted, "ceiling": x.Ceiling}
	amount := number(e.Amount)
	if rule.least != "" && (amount.Cmp(number(numbers[rule.least])) < 0 || amount.Cmp(number(numbers[rule.most])) > 0) {
		return api.Entry{}, api.ErrRange
	}
	if rule.next != "" {
		x.State = slices.Index(stateNames, rule.next)
	}
	if e.Kind == api.EvAssign {
		if e.Creditor == x.Proof.Creditor || e.Creditor < 0 || e.Creditor > 31 {
			return api.Entry{}, api.ErrParty
		}
		x.Proof.Creditor, x.Acquired = e.Creditor, e.Day
	}
	x.Floor, x.Admitted, x.Ceiling = numbers[rule.floor], numbers[rule.admitted], numbers[rule.ceiling]
	x.Changed = e.Day
	return x, api.OK
}

// modelApply returns what P10.4 says of an event. The documents have no errors
// but that they may be too late, and their currencies have rates.
func modelApply(r api.Register, e api.RegisterEvent) (api.Register, api.Errno) {
	if e.Kind < 1 || e.Kind > 9 || e.Day < 0 || e.Day > 1<<20 {
		return api.Register{}, api.ErrRange
	}
	if e.Day < r.Day {
		return api.Register{}, api.ErrOrder
	}
	id := e.ID
	if e.Kind == api.EvFile {
		id = e.Proof.ID
	}
	at := slices.IndexFunc(r.Entries, func(x api.Entry) bool { return x.Proof.ID == id })
	list := slices.Clone(r.Entries)
	switch {
	case e.Kind != api.EvFile && at < 0:
		return api.Register{}, api.ErrName
	case e.Kind != api.EvFile:
		x, errno := modelChange(list[at], e)
		if errno != api.OK {
			return api.Register{}, errno
		}
		list[at] = x
	case e.Proof.Incurred > r.CutOff:
		return api.Register{}, api.ErrLate
	case at >= 0:
		return api.Register{}, api.ErrTwice
	case len(list) == 64:
		return api.Register{}, api.ErrLong
	default:
		value := rat(modelValue(e.Proof, r.CutOff))
		list = append(list, api.Entry{Proof: e.Proof, State: 1, Late: e.Day > r.Bar, Claimed: value, Ceiling: value, Acquired: e.Proof.Incurred, Changed: e.Day})
	}
	return api.Register{CutOff: r.CutOff, Bar: r.Bar, Day: e.Day, Entries: list}, api.OK
}

// same reports whether two registers are equal.
func same(a, b api.Register) bool {
	return a.CutOff == b.CutOff && a.Bar == b.Bar && a.Day == b.Day && slices.Equal(a.Entries, b.Entries)
}

// isEmpty reports whether r is what comes with an error.
func isEmpty(r api.Register) bool {
	return same(r, api.Register{})
}

// copied returns r with a list of entries of its own.
func copied(r api.Register) api.Register {
	r.Entries = slices.Clone(r.Entries)
	return r
}

func show(r api.Register) string {
	s := fmt.Sprintf("register with cut-off %d, bar %d, day %d", r.CutOff, r.Bar, r.Day)
	for _, x := range r.Entries {
		s += " " + showEntry(x)
	}
	return s
}

func showEntry(x api.Entry) string {
	text := rational.Format
	return fmt.Sprintf("[%q of creditor %d: state %d, late %v, %s <= %s <= %s <= %s, acquired %d, changed %d]", x.Proof.ID, x.Proof.Creditor,
		x.State, x.Late, text(x.Floor), text(x.Admitted), text(x.Ceiling), text(x.Claimed), x.Acquired, x.Changed)
}

func showEvent(e api.RegisterEvent) string {
	return fmt.Sprintf("event %d on day %d (ID %q, amount %s, creditor %d, proof %q)", e.Kind, e.Day, e.ID, rational.Format(e.Amount), e.Creditor, e.Proof.ID)
}
