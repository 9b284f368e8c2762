package currency_test

import (
	"testing"

	"insolvency/api"
	"insolvency/currency"
	"insolvency/rational"
)

// mustConvert returns the result of Convert for arguments without an error.
func mustConvert(t *testing.T, quotes []api.Quote, amount api.Rat, from, to string, day int) api.Rat {
	t.Helper()
	got, e := currency.Convert(quotes, amount, from, to, day)
	if e != api.OK {
		t.Errorf("P7.3: Convert(%q to %q, %d): %d", from, to, day, e)
	}
	return got
}

// quoted returns the codes that have a rate on the day.
func quoted(list []quote, day int) []string {
	out := []string{}
	for _, code := range codes() {
		if _, e := rate(list, code, day); e == api.OK {
			out = append(out, code)
		}
	}
	return out
}

func TestConvertingBack(t *testing.T) {
	for _, list := range lists() {
		quotes := quotesOf(list)
		for _, day := range []int{0, 3, 8, 60, 90} {
			for _, from := range quoted(list, day) {
				for i, to := range quoted(list, day) {
					amount := rat(amounts()[(i+day)%len(amounts())])
					there := mustConvert(t, quotes, amount, from, to, day)
					if back := mustConvert(t, quotes, there, to, from, day); back != amount {
						t.Errorf("P7.4: %s from %s to %s and back on day %d: %s", rational.Format(amount), from, to, day, rational.Format(back))
					}
				}
			}
		}
	}
}

func TestConvertingThroughAThirdCurrency(t *testing.T) {
	for _, list := range lists()[:9] {
		quotes := quotesOf(list)
		for _, day := range []int{3, 8, 90} {
			for _, from := range quoted(list, day) {
				for _, to := range quoted(list, day) {
					for i, third := range quoted(list, day) {
						amount := rat(amounts()[(i+day)%len(amounts())])
						direct := mustConvert(t, quotes, amount, from, to, day)
						between := mustConvert(t, quotes, amount, from, third, day)
						if got := mustConvert(t, quotes, between, third, to, day); got != direct {
							t.Errorf("P7.4: %s from %s through %s to %s on day %d: %s, want %s", rational.Format(amount), from, third, to, day, rational.Format(got), rational.Format(direct))
						}
					}
				}
			}
		}
	}
}
