package proof

import (
	"strconv"
	"strings"

	"insolvency/api"
	"insolvency/rational"
)

// Kinds of lines, in the order in which a document has them.
const (
	noLine = iota - 1
	proofLine
	estateLine
	creditorLine
	amountLine
	incurredLine
	rankLine // the last line that a document must have
	interestLine
	securedLine
)

// forms has the form of each kind of lines: ID, CODE and R stand for any word,
// N for one that has the form of a number.
var forms = [...]string{
	proofLine:    "proof ID",
	estateLine:   "estate N",
	creditorLine: "creditor N",
	amountLine:   "amount CODE R",
	incurredLine: "incurred N",
	rankLine:     "rank N",
	interestLine: "interest R from N",
	securedLine:  "secured N",
}

// maxNumberLength is the greatest number of digits of an N.
const maxNumberLength = 9

// reader is what was read of a text: the documents, of which the last one may
// be incomplete, and the kind of the last line.
type reader struct {
	list []api.Proof
	last int
}

// Parse returns the documents of a text and 0, or the number of the first line
// that has an error, and this error.
func Parse(text string) ([]api.Proof, int, api.Errno) {
	if isLong(text) {
		return nil, 0, api.ErrLong
	}
	r := reader{last: noLine}
	lines := 0
	for rest := text; rest != ""; {
		line, after, ended := strings.Cut(rest, "\n")
		rest = after
		lines++
		if e := r.read(line, ended); e != api.OK {
			return nil, lines, e
		}
	}
	if !r.mayEnd() {
		return nil, lines + 1, api.ErrSyntax
	}
	return r.list, 0, api.OK
}

// mayEnd reports whether no document is incomplete.
func (r *reader) mayEnd() bool {
	return r.last == noLine || r.last >= rankLine
}

// mayFollow reports whether a line of this kind may follow the last one.
func (r *reader) mayFollow(kind int) bool {
	switch {
	case kind == proofLine:
		return r.mayEnd()
	case kind <= rankLine:
		return kind == r.last+1
	}
	return r.last >= rankLine && kind > r.last
}

// read reads the next line and returns its first error. The line is given
// without the byte at its end; ended tells whether it has one.
func (r *reader) read(line string, ended bool) api.Errno {
	words := strings.Split(line, " ")
	kind := kindOf(words)
	if !ended || kind == noLine || !r.mayFollow(kind) {
		return api.ErrSyntax
	}
	r.last = kind
	if kind == proofLine {
		return r.begin(words[1])
	}
	return set(&r.list[len(r.list)-1], kind, words)
}

// begin begins a document.
func (r *reader) begin(id string) api.Errno {
	switch {
	case !IsName(id):
		return api.ErrName
	case hasID(r.list, id):
		return api.ErrTwice
	case len(r.list) >= api.MaxProofs:
		return api.ErrLong
	}
	r.list = append(r.list, api.Proof{ID: id, Secured: notSecured})
	return api.OK
}

// set sets the fields that a line of this kind has and returns its first error.
func set(p *api.Proof, kind int, words []string) api.Errno {
	e := api.OK
	switch kind {
	case estateLine:
		p.Estate, e = number(words[1], lastEstate)
	case creditorLine:
		p.Creditor, e = number(words[1], lastCreditor)
	case amountLine:
		e = setAmount(p, words[1], words[2])
	case incurredLine:
		p.Incurred, e = number(words[1], api.MaxDays)
	case rankLine:
		p.Rank, e = number(words[1], api.MaxRank)
	case interestLine:
		e = setInterest(p, words[1], words[3])
	case securedLine:
		p.Secured, e = number(words[1], lastItem)
	}
	return e
}

// setAmount sets the amount and its currency.
func setAmount(p *api.Proof, code, amount string) api.Errno {
	if !isCode(code) {
		return api.ErrCode
	}
	e := api.OK
	p.Code = code
	p.Amount, e = quantity(amount)
	return e
}

// setInterest sets the rate of interest and the day from which it accrues.
func setInterest(p *api.Proof, rate, from string) api.Errno {
	e := api.OK
	p.Rate, e = quantity(rate)
	if e != api.OK {
		return e
	}
	if rational.Sign(p.Rate) == 0 {
		return api.ErrRange
	}
	p.RateFrom, e = number(from, api.MaxDays)
	return e
}

// quantity returns the number that a word R represents. It is not negative.
func quantity(word string) (api.Rat, api.Errno) {
	q, e := rational.Parse(word)
	if e == api.OK && rational.Sign(q) < 0 {
		return api.Rat{}, api.ErrNegative
	}
	return q, e
}

// number returns the number that a word N represents. It is at most last.
func number(word string, last int) (int, api.Errno) {
	// A word of this form has so few digits that there is no error.
	n, _ := strconv.Atoi(word)
	if !isUpTo(n, last) {
		return 0, api.ErrRange
	}
	return n, api.OK
}

// kindOf returns the kind of lines that have the form of these words.
func kindOf(words []string) int {
	for kind, form := range forms {
		if hasForm(words, strings.Split(form, " ")) {
			return kind
		}
	}
	return noLine
}

// hasForm reports whether the words have a form.
func hasForm(words, form []string) bool {
	if len(words) != len(form) {
		return false
	}
	for i, part := range form {
		switch part {
		case "ID", "CODE", "R":
		case "N":
			if !isNumber(words[i]) {
				return false
			}
		default:
			if words[i] != part {
				return false
			}
		}
	}
	return true
}

// isNumber reports whether s has the form of an N.
func isNumber(s string) bool {
	if s == "" || len(s) > maxNumberLength || !consistsOf(s, digits) {
		return false
	}
	return s == "0" || s[0] != '0'
}
