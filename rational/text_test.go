package rational_test

import (
	"math"
	"math/big"
	"strings"
	"testing"

	"insolvency/api"
	"insolvency/rational"
)

// checkParse compares Parse with math/big, with and without a sign.
func checkParse(t *testing.T, s string) {
	t.Helper()
	want, ok := new(big.Rat).SetString(s)
	if !ok {
		t.Fatalf("the test's own number is wrong: %.20q", s)
	}
	if got, e := rational.Parse(s); got != rat(want) || e != api.OK {
		t.Errorf("P2.7: Parse(%.40q) = %#v, %d", s, got, e)
	}
	if got, e := rational.Parse("-" + s); got != rat(new(big.Rat).Neg(want)) || e != api.OK {
		t.Errorf("P2.7: Parse(%.40q) = %#v, %d", "-"+s, got, e)
	}
}

func TestParse(t *testing.T) {
	longest := "1" + strings.Repeat("7", api.MaxDigits-1)
	zeros := strings.Repeat("0", api.MaxDigits-1)
	for _, s := range []string{
		"0", "1", "7", "10", "12345678901234567890123", longest,
		"0.0", "0.000", "0.5", "3.250", "10.05", "0.001", "100.100", "1.999999999999999999999", "0.1234567890",
		longest + ".5", "0." + longest, longest + "." + longest, "0." + zeros + "0", "0." + zeros + "1", "5." + zeros + "5",
		"0/1", "0/5", "1/1", "6/4", "4/6", "12/3", "1/3", "10/100", "18446744073709551616/6", longest + "/3", "3/" + longest, longest + "/" + longest,
	} {
		checkParse(t, s)
	}
}

func TestParseErrorsOfForm(t *testing.T) {
	long := strings.Repeat("9", api.MaxDigits+1)
	for _, s := range []string{
		"", "-", "--1", "+1", "-+1", "- 1", " 1", "1 ", "1\n", "a", "x1", "1x", "\x00", "\xff", "\u0663", "1e5", "1E5", "0x1", "1_0", "1,5", "inf", "NaN",
		"00", "01", "007", "-00", "-01", "1-", "1-2",
		".", "-.", "1.", ".5", "-.5", "-1.", "01.5", "00.5", "1..5", "1.2.3", "1.-5", "1.+5", "1. 5", "1.5 ", "1.5a", "1.a5", "1.5-", "1 .5", "x.5",
		"/", "-/", "1/", "/2", "-/2", "01/2", "1/02", "1/00", "1/-2", "1/+2", "-1/-2", "1/2/3", "1//2", "1/ 2", "1 /2", "1/2 ", "1/a", "a/2",
		"1.5/2", "1/2.5", "1.5/2.5", "./", "/.", "1./2", "1/.5",
		long + "x", "x" + long, "0" + long, long + ".", long + ".x", "." + long, long + "/", "/" + long, long + "/x", long + "/01", "x/" + long, "x." + long, "01/" + long, "01." + long, "1." + long + "x", "1." + strings.Repeat("0", 3000) + "x", long + "." + long + "x",
		"x/0", "01/0", "/0", "1.5/0", "-/0", "0/0/0",
	} {
		if got, e := rational.Parse(s); got != (api.Rat{}) || e != api.ErrNumber {
			t.Errorf("P2.7: Parse(%.20q..) = %#v, %d", s, got, e)
		}
	}
}

func TestParseErrorsOfLength(t *testing.T) {
	long := strings.Repeat("9", api.MaxDigits+1)
	zeros := strings.Repeat("0", api.MaxDigits)
	for _, s := range []string{
		long, "-" + long, long + long + long, "1" + zeros, long + ".5", "-" + long + ".5", "0." + long, "0.0" + zeros, "0." + zeros + "1", "1.0" + long, "3.0" + strings.Repeat("1", api.MaxDigits), long + "." + long,
		long + "/3", "3/" + long, "-3/" + long, "0/" + long, long + "/" + long, long + "/0", "-" + long + "/0",
	} {
		if got, e := rational.Parse(s); got != (api.Rat{}) || e != api.ErrLong {
			t.Errorf("P2.7: Parse of %d digits = %#v, %d", len(s), got, e)
		}
	}
}

func TestParseErrorsOfRange(t *testing.T) {
	for _, s := range []string{"0/0", "1/0", "-1/0", "-0/0", "18446744073709551616/0", strings.Repeat("9", api.MaxDigits) + "/0"} {
		if got, e := rational.Parse(s); got != (api.Rat{}) || e != api.ErrRange {
			t.Errorf("P2.7: Parse(%.20q..) = %#v, %d", s, got, e)
		}
	}
}

func TestParseMinusZero(t *testing.T) {
	for _, s := range []string{"-0", "-0.0", "-0.000", "-0/1", "-0/7"} {
		if got, e := rational.Parse(s); got != (api.Rat{}) || e != api.OK {
			t.Errorf("P2.7: Parse(%q) = %#v, %d", s, got, e)
		}
	}
}

func TestFormat(t *testing.T) {
	for _, x := range numbers() {
		// RatString omits a denominator of 1.
		if got := rational.Format(rat(x)); got != x.RatString() {
			t.Errorf("P2.8: Format(%v) = %s", x, got)
		}
		if got, e := rational.Parse(rational.Format(rat(x))); got != rat(x) || e != api.OK {
			t.Errorf("P2.9: Parse of Format of %v = %#v, %d", x, got, e)
		}
	}
}

// decimal returns x rounded toward 0, as a text without a point would give it.
func decimal(x *big.Rat, places int) string {
	scaled := new(big.Int).Mul(x.Num(), power(10, int64(places)))
	scaled.Quo(scaled, x.Denom())
	return new(big.Rat).SetFrac(scaled, power(10, int64(places))).FloatString(places)
}

func TestDecimal(t *testing.T) {
	list := numbers()
	for a := int64(-30); a <= 30; a++ {
		for _, b := range []int64{1, 2, 3, 7, 8, 9, 10, 11, 100, 1000, 1e15, 1e18} {
			list = append(list, big.NewRat(a, b))
		}
	}
	for _, x := range list {
		for places := range 21 {
			if got, want := rational.Decimal(rat(x), places), decimal(x, places); got != want {
				t.Errorf("P2.8: Decimal(%v, %d) = %s, want %s", x, places, got, want)
			}
		}
		for _, places := range []int{-1, -20, math.MinInt} {
			if got, want := rational.Decimal(rat(x), places), decimal(x, 0); got != want {
				t.Errorf("P2.8: Decimal(%v, %d) = %s, want %s", x, places, got, want)
			}
		}
		for _, places := range []int{21, 22, 1000, math.MaxInt} {
			if got, want := rational.Decimal(rat(x), places), decimal(x, 20); got != want {
				t.Errorf("P2.8: Decimal(%v, %d) = %s, want %s", x, places, got, want)
			}
		}
	}
}

func TestDecimalOfKnownNumbers(t *testing.T) {
	for _, c := range []struct {
		a, b   int64
		places int
		want   string
	}{
		{0, 1, 0, "0"},
		{0, 1, 3, "0.000"},
		{-2, 3, 0, "0"},
		{-1, 1000, 2, "0.00"},
		{-1, 1000, 3, "-0.001"},
		{-5, 3, 0, "-1"},
		{999, 1000, 2, "0.99"},
		{-1999, 1000, 2, "-1.99"},
		{13, 4, 1, "3.2"},
		{13, 4, 4, "3.2500"},
		{1, 20, 1, "0.0"},
		{1, 100, 2, "0.01"},
		{100, 1, 2, "100.00"},
		{1, 3, 20, "0.33333333333333333333"},
		{1, 1, 21, "1.00000000000000000000"},
		{123, 1, -5, "123"},
	} {
		if got := rational.Decimal(fraction(c.a, c.b), c.places); got != c.want {
			t.Errorf("P2.8: Decimal(%d/%d, %d) = %s, want %s", c.a, c.b, c.places, got, c.want)
		}
	}
}
