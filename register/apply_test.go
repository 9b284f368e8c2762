package register_test

import (
	"math"
	"slices"
	"strconv"
	"testing"

	"insolvency/api"
	"insolvency/rational"
	"insolvency/register"
)

// mustApply returns the result of an event that must succeed.
func mustApply(t *testing.T, r api.Register, e api.RegisterEvent) api.Register {
	t.Helper()
	out, errno := register.Apply(r, e, quotes())
	if errno != api.OK {
		t.Fatalf("P10.4: %s of %q on day %d: %d", kindNames[e.Kind], e.ID, e.Day, errno)
	}
	return out
}

// refuse reports an error unless the event has this error and changes nothing.
func refuse(t *testing.T, name string, r api.Register, e api.RegisterEvent, want api.Errno) {
	t.Helper()
	before := copied(r)
	if out, errno := register.Apply(r, e, quotes()); !isEmpty(out) || errno != want {
		t.Errorf("P10.4: kind %d, %s: %s, %d, want %d", e.Kind, name, show(out), errno, want)
	}
	if !same(r, before) {
		t.Errorf("P10.5: kind %d, %s, changes its argument", e.Kind, name)
	}
}

// filed returns a register with the cut-off day 100, the bar day 200 and the
// entries "a", "b" and "c" of 90 euros, on day 120.
func filed(t *testing.T) api.Register {
	t.Helper()
	r, _ := register.New(100, 200)
	for _, id := range []string{"a", "b", "c"} {
		r = mustApply(t, r, api.RegisterEvent{Kind: api.EvFile, Day: 120, Proof: claim(id)})
	}
	return r
}

// inState returns the register of filed where "b" is in a state, with the
// Floor 30 and the Admitted amount 50.
func inState(t *testing.T, state int) api.Register {
	t.Helper()
	r := filed(t)
	r.Entries[1].State, r.Entries[1].Floor, r.Entries[1].Admitted = state, fraction(30, 1), fraction(50, 1)
	return r
}

func TestFile(t *testing.T) {
	r, _ := register.New(100, 200)
	for i, x := range []struct {
		day  int
		late bool
	}{{0, false}, {100, false}, {199, false}, {200, false}, {200, false}, {201, true}, {api.MaxDays, true}} {
		p := claim("x" + strconv.Itoa(i))
		p.Incurred, p.Rate, p.RateFrom, p.Secured = 20+i, fraction(1, 10), 27, 3
		r = mustApply(t, r, api.RegisterEvent{Kind: api.EvFile, Day: x.day, ID: "x0", Amount: fraction(-7, 1), Creditor: -9, Proof: p})
		value := fraction(459, 5)
		want := api.Entry{Proof: p, State: api.StFiled, Late: x.late, Claimed: value, Ceiling: value, Acquired: 20 + i, Changed: x.day}
		if r.CutOff != 100 || r.Bar != 200 || r.Day != x.day || len(r.Entries) != i+1 || r.Entries[i] != want {
			t.Errorf("P10.4: EvFile on day %d: %s", x.day, show(r))
		}
	}
}

func TestFiledTwice(t *testing.T) {
	for state := -1; state <= 9; state++ {
		refuse(t, "an ID twice", inState(t, state), api.RegisterEvent{Kind: api.EvFile, Day: 130, Proof: claim("b")}, api.ErrTwice)
	}
	r := filed(t)
	refuse(t, "an ID twice, incurred too late", r, api.RegisterEvent{Kind: api.EvFile, Day: 130, Proof: bent(func(p *api.Proof) { p.Incurred = 101 })}, api.ErrLate)
	refuse(t, "an ID twice, in an unknown currency", r, api.RegisterEvent{Kind: api.EvFile, Day: 130, Proof: bent(func(p *api.Proof) { p.Code = "CHF" })}, api.ErrCode)
	mustApply(t, r, api.RegisterEvent{Kind: api.EvFile, Day: 130, Proof: claim("A")})
}

func TestFullRegister(t *testing.T) {
	full, _ := register.New(100, 200)
	for i := range api.MaxProofs {
		full = mustApply(t, full, api.RegisterEvent{Kind: api.EvFile, Day: 1, Proof: claim("x" + strconv.Itoa(i))})
	}
	more := api.Register{CutOff: 100, Entries: make([]api.Entry, 70)}
	for _, r := range []api.Register{full, more} {
		refuse(t, "too many entries", r, api.RegisterEvent{Kind: api.EvFile, Day: 1, Proof: claim("a")}, api.ErrLong)
		refuse(t, "too many entries, incurred too late", r, api.RegisterEvent{Kind: api.EvFile, Day: 1, Proof: bent(func(p *api.Proof) { p.Incurred = 101 })}, api.ErrLate)
	}
	refuse(t, "too many entries, with its ID", full, api.RegisterEvent{Kind: api.EvFile, Day: 1, Proof: claim("x63")}, api.ErrTwice)
	if r := mustApply(t, full, api.RegisterEvent{Kind: api.EvAdmit, Day: 1, ID: "x63"}); r.Entries[63].State != api.StAdmitted {
		t.Errorf("P10.4: EvAdmit of the last entry: %s", showEntry(r.Entries[63]))
	}
}

// states returns an entry in each state, and in what is none, with numbers that
// all differ.
func states() []api.Entry {
	list := []api.Entry{}
	for _, state := range []int{math.MinInt, -1, 0, 1, 2, 3, 4, 5, 6, 7, 8, 9, 1<<32 + 1, math.MaxInt} {
		list = append(list, api.Entry{
			Proof: claim("b"), State: state, Late: state%2 == 0, Claimed: fraction(95, 1),
			Floor: fraction(30, 1), Admitted: fraction(50, 1), Ceiling: fraction(90, 1), Acquired: 7, Changed: 8,
		})
	}
	return list
}

func TestEventsInAllStates(t *testing.T) {
	amounts := []api.Rat{{}, fraction(-1, 100), fraction(1, 100), fraction(2999, 100), fraction(30, 1), fraction(301, 10), fraction(50, 1), fraction(90, 1), fraction(9001, 100), fraction(95, 1), fraction(96, 1)}
	for _, x := range states() {
		for kind := api.EvAdmit; kind <= api.EvLapse; kind++ {
			for i, amount := range amounts {
				for _, creditor := range []int{-1, 0, 2, 3, 4, 31, 32, math.MinInt, math.MaxInt} {
					r := api.Register{CutOff: 100, Bar: 200, Day: 120, Entries: []api.Entry{{Proof: claim("a"), State: 1}, x, {Proof: claim("c"), State: 1}}}
					checkApply(t, r, api.RegisterEvent{Kind: kind, Day: 120 + i%3, ID: "b", Amount: amount, Creditor: creditor})
				}
			}
		}
	}
}

// checkApply compares the result of an event with the model, and returns it.
func checkApply(t *testing.T, r api.Register, e api.RegisterEvent) (api.Register, api.Errno) {
	t.Helper()
	got, errno := register.Apply(r, e, quotes())
	if want, wantError := modelApply(r, e); errno != wantError || !same(got, want) {
		t.Errorf("P10.4: %s in %s: %s, %d, want %s, %d", showEvent(e), show(r), show(got), errno, show(want), wantError)
	}
	return got, errno
}

func TestKinds(t *testing.T) {
	r := filed(t)
	for _, kind := range []int{0, -1, 10, 1<<32 + 2, math.MinInt, math.MaxInt} {
		for _, day := range []int{130, 119, -1} {
			refuse(t, "which is unknown", r, api.RegisterEvent{Kind: kind, Day: day, ID: "a", Proof: claim("d"), Creditor: 5}, api.ErrRange)
		}
	}
}

func TestDays(t *testing.T) {
	for kind := api.EvFile; kind <= api.EvLapse; kind++ {
		for _, day := range []int{-1, api.MaxDays + 1, math.MinInt, math.MaxInt} {
			refuse(t, "no day", filed(t), api.RegisterEvent{Kind: kind, Day: day, ID: "x", Amount: fraction(-1, 1)}, api.ErrRange)
		}
		for _, day := range []int{0, 119} {
			refuse(t, "a day before", filed(t), api.RegisterEvent{Kind: kind, Day: day, ID: "x", Amount: fraction(-1, 1)}, api.ErrOrder)
		}
	}
	for _, day := range []int{120, 121, api.MaxDays} {
		if r := mustApply(t, filed(t), api.RegisterEvent{Kind: api.EvAdmit, Day: day, ID: "b"}); r.Day != day || r.Entries[1].Changed != day || r.Entries[0].Changed != 120 {
			t.Errorf("P10.4: EvAdmit on day %d: %s", day, show(r))
		}
	}
}

// A refused event does not move the day forward.
func TestRefusedEventsKeepTheDay(t *testing.T) {
	r := filed(t)
	refuse(t, "an unknown ID", r, api.RegisterEvent{Kind: api.EvAdmit, Day: 500, ID: "x"}, api.ErrName)
	if r = mustApply(t, r, api.RegisterEvent{Kind: api.EvAdmit, Day: 120, ID: "a"}); r.Day != 120 {
		t.Errorf("P10.4: the day is %d", r.Day)
	}
}

func TestUnknownIDs(t *testing.T) {
	for kind := api.EvAdmit; kind <= api.EvLapse; kind++ {
		for _, id := range []string{"", "d", "A", "ab"} {
			e := api.RegisterEvent{Kind: kind, Day: 120, ID: id, Amount: fraction(-1, 1), Creditor: -1, Proof: claim("a")}
			refuse(t, "an unknown ID", filed(t), e, api.ErrName)
			refuse(t, "no entries", api.Register{}, e, api.ErrName)
		}
	}
}

// The state is checked before the other fields of the event.
func TestStateBeforeFields(t *testing.T) {
	for kind, state := range map[int]int{api.EvDispute: api.StAdmitted, api.EvDecide: api.StFiled, api.EvRevise: api.StDecided, api.EvAssign: api.StWithdrawn} {
		refuse(t, "the wrong state", inState(t, state), api.RegisterEvent{Kind: kind, Day: 120, ID: "b", Amount: fraction(-1, 1), Creditor: 3}, api.ErrState)
	}
}

// The first entry with the ID is changed.
func TestFirstEntryIsChanged(t *testing.T) {
	r := filed(t)
	r.Entries[2].Proof.ID = "b"
	out := mustApply(t, r, api.RegisterEvent{Kind: api.EvWithdraw, Day: 120, ID: "b"})
	if out.Entries[1].State != api.StWithdrawn || out.Entries[2] != r.Entries[2] || out.Entries[0] != r.Entries[0] {
		t.Errorf("P10.4: EvWithdraw of an ID that occurs twice: %s", show(out))
	}
	refuse(t, "an ID whose first entry is in the wrong state", out, api.RegisterEvent{Kind: api.EvAdmit, Day: 120, ID: "b"}, api.ErrState)
}

// Fields that the kind does not list are ignored.
func TestIgnoredFields(t *testing.T) {
	junk := api.Proof{ID: "junk", Estate: -1, Amount: fraction(-1, 1)}
	for _, x := range []struct{ kind, state int }{
		{api.EvAdmit, api.StFiled}, {api.EvDispute, api.StFiled}, {api.EvDecide, api.StDisputed}, {api.EvAppeal, api.StDecided},
		{api.EvRevise, api.StAppealed}, {api.EvWithdraw, api.StAdmitted}, {api.EvAssign, api.StFinal}, {api.EvLapse, api.StDecided},
	} {
		e := api.RegisterEvent{Kind: x.kind, Day: 125, ID: "b"}
		switch x.kind {
		case api.EvDispute, api.EvDecide, api.EvRevise:
			e.Amount = fraction(60, 1)
		case api.EvAssign:
			e.Creditor = 9
		}
		want := mustApply(t, inState(t, x.state), e)
		e.Proof = junk
		if x.kind == api.EvAssign {
			e.Amount = fraction(-1, 1)
		} else {
			e.Creditor = -1
		}
		if e.Amount == (api.Rat{}) {
			e.Amount = fraction(1000, 1)
		}
		// Quotes are for documents only.
		got, errno := register.Apply(inState(t, x.state), e, make([]api.Quote, 300))
		if errno != api.OK || !same(got, want) {
			t.Errorf("P10.4: %s with other fields: %s, %d, want %s", kindNames[x.kind], show(got), errno, show(want))
		}
	}
}

// The example of the document.
func TestExample(t *testing.T) {
	r := mustApply(t, filed(t), api.RegisterEvent{Kind: api.EvDispute, Day: 120, ID: "b", Amount: fraction(30, 1)})
	r = mustApply(t, r, api.RegisterEvent{Kind: api.EvDecide, Day: 120, ID: "b", Amount: fraction(50, 1)})
	if x := r.Entries[1]; x.Floor != fraction(30, 1) || x.Admitted != fraction(50, 1) || x.Ceiling != fraction(90, 1) {
		t.Errorf("P10.4: EvDecide: %s", showEntry(x))
	}
	r = mustApply(t, r, api.RegisterEvent{Kind: api.EvLapse, Day: 120, ID: "b"})
	if x := r.Entries[1]; x.State != api.StFinal || x.Floor != fraction(50, 1) || x.Admitted != fraction(50, 1) || x.Ceiling != fraction(50, 1) {
		t.Errorf("P10.4: EvLapse: %s", showEntry(x))
	}
}

// Numbers of events and of entries that are not valid count as 0, and those
// that an event does not change remain as they are.
func TestInvalidNumbers(t *testing.T) {
	good := fraction(50, 1)
	for _, bad := range invalid() {
		for _, x := range []struct {
			kind, state                          int
			amount, floor, admitted, ceiling     api.Rat
			nextState                            int
			nextFloor, nextAdmitted, nextCeiling api.Rat
		}{
			{kind: api.EvDispute, state: api.StFiled, amount: bad, floor: bad, ceiling: good, nextState: api.StDisputed, nextCeiling: good},
			{kind: api.EvDispute, state: api.StFiled, amount: bad, ceiling: bad, nextState: api.StDisputed, nextCeiling: bad},
			{kind: api.EvDecide, state: api.StDisputed, amount: bad, floor: bad, admitted: good, ceiling: good, nextState: api.StDecided, nextFloor: bad, nextCeiling: good},
			{kind: api.EvDecide, state: api.StDisputed, amount: good, floor: bad, admitted: bad, ceiling: good, nextState: api.StDecided, nextFloor: bad, nextAdmitted: good, nextCeiling: good},
			{kind: api.EvRevise, state: api.StAppealed, amount: bad, floor: bad, admitted: bad, ceiling: bad, nextState: api.StFinal},
			{kind: api.EvAdmit, state: api.StFiled, floor: good, admitted: bad, ceiling: bad, nextState: api.StAdmitted, nextCeiling: bad},
			{kind: api.EvLapse, state: api.StDecided, floor: good, admitted: bad, ceiling: good, nextState: api.StFinal, nextAdmitted: bad},
			{kind: api.EvAppeal, state: api.StDecided, floor: bad, admitted: bad, ceiling: bad, nextState: api.StAppealed, nextFloor: bad, nextAdmitted: bad, nextCeiling: bad},
			{kind: api.EvAssign, state: api.StFinal, floor: bad, admitted: bad, ceiling: bad, nextState: api.StFinal, nextFloor: bad, nextAdmitted: bad, nextCeiling: bad},
			{kind: api.EvWithdraw, state: api.StFiled, floor: bad, admitted: bad, ceiling: bad, nextState: api.StWithdrawn},
		} {
			entry := api.Entry{Proof: claim("b"), State: x.state, Claimed: bad, Floor: x.floor, Admitted: x.admitted, Ceiling: x.ceiling}
			out := mustApply(t, api.Register{Entries: []api.Entry{entry}}, api.RegisterEvent{Kind: x.kind, Day: 5, ID: "b", Amount: x.amount, Creditor: 4})
			got := out.Entries[0]
			if got.State != x.nextState || got.Claimed != bad || got.Floor != x.nextFloor || got.Admitted != x.nextAdmitted || got.Ceiling != x.nextCeiling {
				t.Errorf("P10.4: %s with %#v: %#v", kindNames[x.kind], bad, got)
			}
		}
	}
}

func TestInvalidNumbersOutOfRange(t *testing.T) {
	one := fraction(1, 1)
	for _, bad := range invalid() {
		entry := api.Entry{Proof: claim("b"), State: api.StFiled, Ceiling: bad}
		refuse(t, "more than an invalid Ceiling", api.Register{Entries: []api.Entry{entry}}, api.RegisterEvent{Kind: api.EvDispute, ID: "b", Amount: one}, api.ErrRange)
		entry = api.Entry{Proof: claim("b"), State: api.StDisputed, Floor: one, Ceiling: one}
		refuse(t, "an invalid amount less than Floor", api.Register{Entries: []api.Entry{entry}}, api.RegisterEvent{Kind: api.EvDecide, ID: "b", Amount: bad}, api.ErrRange)
		entry = api.Entry{Proof: claim("b"), State: api.StAppealed, Floor: bad, Ceiling: one}
		refuse(t, "a negative amount and an invalid Floor", api.Register{Entries: []api.Entry{entry}}, api.RegisterEvent{Kind: api.EvRevise, ID: "b", Amount: rational.Negate(one)}, api.ErrRange)
	}
}

// The document is kept as it was filed.
func TestInvalidNumbersFiled(t *testing.T) {
	for _, bad := range invalid() {
		p := bent(func(p *api.Proof) { p.ID, p.Amount, p.Rate = "d", bad, bad })
		out := mustApply(t, filed(t), api.RegisterEvent{Kind: api.EvFile, Day: 130, Proof: p})
		if want := (api.Entry{Proof: p, State: api.StFiled, Acquired: 100, Changed: 130}); out.Entries[3] != want {
			t.Errorf("P10.4: EvFile with %#v: %#v", bad, out.Entries[3])
		}
	}
}

// Registers may be any value, with days that are none and numbers that are out
// of order.
func TestOddRegisters(t *testing.T) {
	odd := api.Register{CutOff: -5, Bar: math.MinInt, Day: math.MinInt, Entries: []api.Entry{{Proof: api.Proof{Creditor: -7}, State: api.StDisputed, Floor: fraction(9, 1), Ceiling: fraction(-9, 1)}}}
	refuse(t, "a cut-off day that is none", odd, api.RegisterEvent{Kind: api.EvFile, Proof: claim("a")}, api.ErrRange)
	refuse(t, "no amount in the range", odd, api.RegisterEvent{Kind: api.EvDecide}, api.ErrRange)
	refuse(t, "a creditor that is none, but present", odd, api.RegisterEvent{Kind: api.EvAssign, Creditor: -7}, api.ErrParty)
	out := mustApply(t, odd, api.RegisterEvent{Kind: api.EvAssign, Creditor: 0})
	if x := out.Entries[0]; out.Day != 0 || out.CutOff != -5 || out.Bar != math.MinInt || x.Proof.Creditor != 0 || x.Floor != fraction(9, 1) || x.Ceiling != fraction(-9, 1) {
		t.Errorf("P10.4: EvAssign in an odd register: %s", show(out))
	}
	odd.Day = math.MaxInt
	refuse(t, "a register after the last day", odd, api.RegisterEvent{Kind: api.EvWithdraw, Day: api.MaxDays}, api.ErrOrder)
	odd = api.Register{CutOff: 100, Bar: -1, Day: -3}
	if out := mustApply(t, odd, api.RegisterEvent{Kind: api.EvFile, Proof: claim("a")}); !out.Entries[0].Late {
		t.Errorf("P10.4: EvFile after the bar day -1: %s", show(out))
	}
}

// Results share no memory with arguments, also if a list has room for more.
func TestResultsAreNew(t *testing.T) {
	r := filed(t)
	r.Entries = slices.Grow(r.Entries, 10)
	before := copied(r)
	first := mustApply(t, r, api.RegisterEvent{Kind: api.EvFile, Day: 120, Proof: claim("d")})
	second := mustApply(t, r, api.RegisterEvent{Kind: api.EvFile, Day: 120, Proof: claim("e")})
	if first.Entries[3].Proof.ID != "d" || second.Entries[3].Proof.ID != "e" {
		t.Errorf("P10.4: two filings share memory: %s, %s", show(first), show(second))
	}
	third := mustApply(t, r, api.RegisterEvent{Kind: api.EvAdmit, Day: 120, ID: "b"})
	for _, out := range []api.Register{first, second, third} {
		for i := range out.Entries {
			out.Entries[i] = api.Entry{}
		}
	}
	if !same(r, before) {
		t.Errorf("P10.4: the argument is modified: %s", show(r))
	}
	list := register.Against(r, 1)
	list[0] = 9
	if got := register.Against(r, 1); !slices.Equal(got, []int{0, 1, 2}) {
		t.Errorf("P10.3: results of Against share memory: %v", got)
	}
}
