package proof

import (
	"strconv"
	"strings"

	"insolvency/api"
	"insolvency/rational"
)

// Format returns the text for documents.
func Format(l []api.Proof) (string, api.Errno) {
	if e := checkAll(l); e != api.OK {
		return "", e
	}
	text := ""
	for _, p := range l {
		if isLongNumber(p.Amount) || isLongNumber(p.Rate) {
			return "", api.ErrLong
		}
		text += document(p)
		if isLong(text) {
			return "", api.ErrLong
		}
	}
	return text, api.OK
}

// checkAll returns the error of too many documents, or that of the first
// document that has one.
func checkAll(l []api.Proof) api.Errno {
	if len(l) > api.MaxProofs {
		return api.ErrLong
	}
	for i, p := range l {
		if e := Check(p); e != api.OK {
			return e
		}
		if hasID(l[:i], p.ID) {
			return api.ErrTwice
		}
	}
	return api.OK
}

// isLongNumber reports whether r cannot be part of a text because it has too
// many bytes: it has even more digits. To find them would take long, since
// numbers have no limit of their own.
func isLongNumber(r api.Rat) bool {
	// An r that is not valid counts as 0, however many bytes it has.
	return len(r.Num)+len(r.Den) > api.MaxText && rational.Sign(r) != 0
}

// document returns the lines of a document without an error.
func document(p api.Proof) string {
	text := lineOf("proof", p.ID) +
		lineOf("estate", strconv.Itoa(p.Estate)) +
		lineOf("creditor", strconv.Itoa(p.Creditor)) +
		lineOf("amount", p.Code, rational.Format(p.Amount)) +
		lineOf("incurred", strconv.Itoa(p.Incurred)) +
		lineOf("rank", strconv.Itoa(p.Rank))
	if rational.Sign(p.Rate) > 0 {
		text += lineOf("interest", rational.Format(p.Rate), "from", strconv.Itoa(p.RateFrom))
	}
	if p.Secured != notSecured {
		text += lineOf("secured", strconv.Itoa(p.Secured))
	}
	return text
}

// lineOf returns a line with these words.
func lineOf(words ...string) string {
	return strings.Join(words, " ") + "\n"
}
