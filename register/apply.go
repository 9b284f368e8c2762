package register

import (
	"slices"

	"insolvency/api"
	"insolvency/rational"
)

// Apply returns the register after an event.
func Apply(r api.Register, e api.RegisterEvent, quotes []api.Quote) (api.Register, api.Errno) {
	if e.Kind < api.EvFile || e.Kind > api.EvLapse || !isDay(e.Day) {
		return api.Register{}, api.ErrRange
	}
	if e.Day < r.Day {
		return api.Register{}, api.ErrOrder
	}
	if e.Kind == api.EvFile {
		return file(r, e, quotes)
	}
	return change(r, e)
}

// file returns the register with the entry of a new claim.
func file(r api.Register, e api.RegisterEvent, quotes []api.Quote) (api.Register, api.Errno) {
	value, errno := Value(e.Proof, r.CutOff, quotes)
	if errno != api.OK {
		return api.Register{}, errno
	}
	if _, found := Find(r, e.Proof.ID); found {
		return api.Register{}, api.ErrTwice
	}
	if len(r.Entries) >= api.MaxProofs {
		return api.Register{}, api.ErrLong
	}
	entry := api.Entry{
		Proof:    e.Proof,
		State:    api.StFiled,
		Late:     e.Day > r.Bar,
		Claimed:  value,
		Ceiling:  value,
		Acquired: e.Proof.Incurred,
		Changed:  e.Day,
	}
	r.Day = e.Day
	r.Entries = append(slices.Clone(r.Entries), entry)
	return r, api.OK
}

// change returns the register with the entry that the event concerns changed.
func change(r api.Register, e api.RegisterEvent) (api.Register, api.Errno) {
	i, found := Find(r, e.ID)
	if !found {
		return api.Register{}, api.ErrName
	}
	if !isAllowed(e.Kind, r.Entries[i].State) {
		return api.Register{}, api.ErrState
	}
	if errno := checkFields(r.Entries[i], e); errno != api.OK {
		return api.Register{}, errno
	}
	r.Day = e.Day
	r.Entries = slices.Clone(r.Entries)
	r.Entries[i] = after(r.Entries[i], e)
	return r, api.OK
}

// isAllowed reports whether the state of an entry allows events of this kind.
func isAllowed(kind, state int) bool {
	switch kind {
	case api.EvAdmit, api.EvDispute:
		return state == api.StFiled
	case api.EvDecide:
		return state == api.StDisputed
	case api.EvAppeal, api.EvLapse:
		return state == api.StDecided
	case api.EvRevise:
		return state == api.StAppealed
	case api.EvWithdraw:
		return state >= api.StFiled && state < api.StFinal
	case api.EvAssign:
		return state >= api.StFiled && state < api.StWithdrawn
	}
	return false
}

// checkFields returns the error of the Amount or the Creditor of an event, if
// its kind uses them.
func checkFields(entry api.Entry, e api.RegisterEvent) api.Errno {
	switch e.Kind {
	case api.EvDispute:
		return checkAmount(e.Amount, api.Rat{}, entry.Ceiling)
	case api.EvDecide, api.EvRevise:
		return checkAmount(e.Amount, entry.Floor, entry.Ceiling)
	case api.EvAssign:
		if e.Creditor < 0 || e.Creditor >= api.MaxParties || e.Creditor == entry.Proof.Creditor {
			return api.ErrParty
		}
	}
	return api.OK
}

// checkAmount returns ErrRange if the amount is not between the bounds.
func checkAmount(amount, least, most api.Rat) api.Errno {
	if rational.Compare(amount, least) < 0 || rational.Compare(amount, most) > 0 {
		return api.ErrRange
	}
	return api.OK
}

// after returns an entry after an event that it allows. Numbers that are not
// valid count as 0, also those of the entry.
func after(entry api.Entry, e api.RegisterEvent) api.Entry {
	amount := counted(e.Amount)
	entry.Changed = e.Day
	switch e.Kind {
	case api.EvAdmit:
		entry.State = api.StAdmitted
		entry.Floor, entry.Admitted = counted(entry.Ceiling), counted(entry.Ceiling)
	case api.EvDispute:
		entry.State = api.StDisputed
		entry.Floor, entry.Admitted = amount, amount
	case api.EvDecide:
		entry.State = api.StDecided
		entry.Admitted = amount
	case api.EvAppeal:
		entry.State = api.StAppealed
	case api.EvRevise:
		entry.State = api.StFinal
		entry.Floor, entry.Admitted, entry.Ceiling = amount, amount, amount
	case api.EvLapse:
		entry.State = api.StFinal
		entry.Floor, entry.Ceiling = counted(entry.Admitted), counted(entry.Admitted)
	case api.EvWithdraw:
		entry.State = api.StWithdrawn
		entry.Floor, entry.Admitted, entry.Ceiling = api.Rat{}, api.Rat{}, api.Rat{}
	case api.EvAssign:
		entry.Proof.Creditor = e.Creditor
		entry.Acquired = e.Day
	}
	return entry
}

// counted returns the valid number that r, which need not be valid, counts as.
func counted(r api.Rat) api.Rat {
	if !rational.Valid(r) {
		return api.Rat{}
	}
	return r
}
