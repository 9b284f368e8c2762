package proof_test

import (
	"fmt"
	"math/rand"
	"slices"
	"strings"
	"testing"

	"insolvency/api"
	"insolvency/proof"
)

// checkFormat compares Format of documents without an error with what P9.4
// says.
func checkFormat(t *testing.T, name string, list []api.Proof) {
	t.Helper()
	want, wantError := modelFormat(list), api.OK
	if len(want) > 8192 {
		want, wantError = "", api.ErrLong
	}
	if got, e := proof.Format(list); got != want || e != wantError {
		t.Errorf("P9.4: Format of %s: %q, %d, want %q, %d", name, got, e, want, wantError)
	}
}

func checkFormatError(t *testing.T, name string, list []api.Proof, want api.Errno) {
	t.Helper()
	if got, e := proof.Format(list); got != "" || e != want {
		t.Errorf("P9.4: Format of %s: %q, %d, want %d", name, got, e, want)
	}
}

func TestFormatOfGoodDocuments(t *testing.T) {
	if got, e := proof.Format(good()); got != goodText() || e != api.OK {
		t.Errorf("P9.4: Format: %q, %d", got, e)
	}
	for _, list := range [][]api.Proof{nil, {}, good()[:1], good()[1:2], good()} {
		checkFormat(t, fmt.Sprintf("%d documents", len(list)), list)
	}
	list := good()[:1]
	list[0].Amount = fraction(350, 100)
	if got, e := proof.Format(list); !strings.Contains(got, "\namount EUR 7/2\n") || e != api.OK {
		t.Errorf("P9.4: Format of the example: %q, %d", got, e)
	}
}

func TestErrorsOfLists(t *testing.T) {
	bad, minus := good(), good()
	bad[3].ID = "a.b"
	minus[3].Amount = fraction(-1, 1)
	same := func(id string, list []api.Proof) []api.Proof {
		out := append([]api.Proof{list[0]}, list...)
		out[0].ID = id
		return out
	}
	for _, x := range []struct {
		name string
		list []api.Proof
		want api.Errno
	}{
		{"a wrong last document", bad, api.ErrName},
		{"a document without fields", []api.Proof{{}}, api.ErrName},
		{"a document twice", []api.Proof{good()[0], good()[0]}, api.ErrTwice},
		{"an ID twice", same("b", good()), api.ErrTwice},
		{"the last ID twice", same(good()[3].ID, good()), api.ErrTwice},
		{"an ID in other letters", same("z", good()), api.OK},
		{"an ID twice before a wrong name", same("b", bad), api.ErrTwice},
		{"an ID twice before a negative amount", same("Z", minus), api.ErrTwice},
		{"a wrong name twice", []api.Proof{good()[0], bad[3], bad[3]}, api.ErrName},
		{"a negative amount before an ID twice", []api.Proof{good()[0], minus[3], good()[0]}, api.ErrNegative},
		{"a negative amount with an ID twice", same(minus[3].ID, minus), api.ErrNegative},
		{"65 documents", randomList(rand.New(rand.NewSource(1)), 65), api.ErrLong},
		{"65 documents without fields", make([]api.Proof, 65), api.ErrLong},
		{"64 documents without fields", make([]api.Proof, 64), api.ErrName},
		{"65 equal documents", slices.Repeat(good()[:1], 65), api.ErrLong},
		{"64 equal documents", slices.Repeat(good()[:1], 64), api.ErrTwice},
		{"a long text before an ID twice", append(filled(api.MaxText+1), filled(9000)[0]), api.ErrTwice},
		{"a long text before a wrong name", append(filled(api.MaxText+1), bad[3]), api.ErrName},
		{"a long text before a negative amount", append(filled(9000), minus[3]), api.ErrNegative},
	} {
		if x.want == api.OK {
			checkFormat(t, x.name, x.list)
		} else {
			checkFormatError(t, x.name, x.list, x.want)
		}
	}
}

func TestLongTexts(t *testing.T) {
	for _, bytes := range []int{8000, 8191, 8192} {
		list := filled(bytes)
		if got, e := proof.Format(list); len(got) != bytes || got != modelFormat(list) || e != api.OK {
			t.Errorf("P9.4: Format of %d bytes: %d bytes, %d", bytes, len(got), e)
		}
	}
	for _, bytes := range []int{8193, 8300, 12000} {
		checkFormatError(t, "too many bytes", filled(bytes), api.ErrLong)
	}
	list := filled(8100)
	list[1].Rate = nines(100)
	checkFormatError(t, "a long rate", list, api.ErrLong)
	if list, _, e := proof.Parse(documents(0, 64, true)); e != api.OK {
		t.Errorf("P9.3: Parse of 64 documents: %d", e)
	} else {
		checkFormat(t, "512 lines", list)
	}
}

// The text limits the length of a number, and it alone.
func TestLongNumbers(t *testing.T) {
	for _, digits := range []int{2000, 2001, 5000, 8100} {
		p := good()[0]
		p.Amount = nines(digits)
		checkFormat(t, fmt.Sprintf("an amount of %d digits", digits), []api.Proof{p})
		p = good()[1]
		p.Rate = nines(digits)
		checkFormat(t, fmt.Sprintf("a rate of %d digits", digits), []api.Proof{p})
	}
	huge := api.Rat{Num: strings.Repeat("\x01", 1<<20)}
	for _, p := range good() {
		p.Amount = huge
		checkFormatError(t, "an amount of a million bytes", []api.Proof{p}, api.ErrLong)
		p.Amount, p.Rate = fraction(1, 2), huge
		checkFormatError(t, "a rate of a million bytes", []api.Proof{p}, api.ErrLong)
		p.Amount = fraction(-1, 2)
		checkFormatError(t, "a negative amount and a rate of a million bytes", []api.Proof{p}, api.ErrNegative)
		p.Amount = api.Rat{Num: "\x03", Den: strings.Repeat("\x01", 10000)}
		checkFormatError(t, "an amount with a long denominator", []api.Proof{p}, api.ErrLong)
	}
}

func TestParseOfFormat(t *testing.T) {
	source := rand.New(rand.NewSource(95))
	lists := [][]api.Proof{nil, good(), filled(api.MaxText)}
	for i := range 500 {
		lists = append(lists, randomList(source, i%20))
	}
	for i := range 20 {
		lists = append(lists, randomList(source, 45+i))
	}
	formatted := 0
	for i, list := range lists {
		checkFormat(t, fmt.Sprintf("list %d", i), list)
		text, e := proof.Format(list)
		if e != api.OK {
			continue
		}
		formatted++
		if got, line, e := proof.Parse(text); !slices.Equal(got, list) || line != 0 || e != api.OK {
			t.Errorf("P9.5: Parse of Format of list %d: %#v, %d, %d, want %#v", i, got, line, e, list)
		}
	}
	if formatted < 500 {
		t.Errorf("only %d lists could be formatted", formatted)
	}
}

func TestArgumentsAndResultsAreIndependent(t *testing.T) {
	list := good()
	proof.Format(list)
	if !slices.Equal(list, good()) {
		t.Errorf("Format modifies its argument: %#v", list)
	}
	first, _, _ := proof.Parse(goodText())
	clear(first)
	checkParse(t, "the same text again", goodText(), good(), 0, api.OK)
}
