package rational_test

import (
	"math"
	"math/big"
	"math/rand"
	"slices"
	"testing"

	"insolvency/api"
	"insolvency/natural"
	"insolvency/rational"
)

// rat returns the api.Rat of x. It does not use the package under test.
func rat(x *big.Rat) api.Rat {
	r := api.Rat{Neg: x.Sign() < 0, Num: string(x.Num().Bytes())}
	if !x.IsInt() {
		r.Den = string(x.Denom().Bytes())
	}
	return r
}

func fraction(a, b int64) api.Rat { return rat(big.NewRat(a, b)) }

func power(base, exponent int64) *big.Int {
	return new(big.Int).Exp(big.NewInt(base), big.NewInt(exponent), nil)
}

// naturals returns numbers around those at which the number of bytes or words
// changes, and some with many common divisors.
func naturals() []*big.Int {
	list := []*big.Int{big.NewInt(1), big.NewInt(2), big.NewInt(3), big.NewInt(12), big.NewInt(360)}
	for _, bits := range []int64{8, 31, 32, 63, 64, 128} {
		for _, change := range []int64{-1, 0, 1} {
			list = append(list, new(big.Int).Add(power(2, bits), big.NewInt(change)))
		}
	}
	return append(list, new(big.Int).Mul(power(6, 40), power(35, 20)), power(10, 50))
}

// numbers returns 0, integers and fractions of many lengths, and their
// negatives. They are the same in every run.
func numbers() []*big.Rat {
	list := []*big.Rat{new(big.Rat), big.NewRat(1, 2), big.NewRat(1, 3), big.NewRat(2, 3), big.NewRat(1, 6), big.NewRat(1, 100), big.NewRat(355, 113)}
	choices := naturals()
	for _, x := range choices {
		list = append(list, new(big.Rat).SetInt(x))
	}
	source := rand.New(rand.NewSource(3))
	for range 30 {
		num, den := choices[source.Intn(len(choices))], choices[source.Intn(len(choices))]
		list = append(list, new(big.Rat).SetFrac(num, den))
	}
	for _, x := range list[1:] {
		list = append(list, new(big.Rat).Neg(x))
	}
	return list
}

// few returns some of the numbers, of all kinds.
func few() []*big.Rat {
	list := []*big.Rat{}
	for i, x := range numbers() {
		if i%5 == 0 {
			list = append(list, x)
		}
	}
	return list
}

// invalid returns values that break each rule of validity, and those that
// break it only after many bytes.
func invalid() []api.Rat {
	long := string(power(2, 200).Bytes())
	return []api.Rat{
		{Neg: true},
		{Den: "\x01"},
		{Den: "\x02"},
		{Neg: true, Den: "\x02"},
		{Den: "\x00"},
		{Num: "\x00"},
		{Num: "\x00", Den: "\x03"},
		{Num: "\x00\x05"},
		{Num: "\x00\x05", Den: "\x03"},
		{Neg: true, Num: "\x00\x05"},
		{Num: "\x05", Den: "\x00"},
		{Num: "\x05", Den: "\x01"},
		{Num: "\x05", Den: "\x00\x01"},
		{Num: "\x05", Den: "\x00\x03"},
		{Num: "\x06", Den: "\x04"},
		{Num: "\x07", Den: "\x07"},
		{Num: "\x07", Den: "\x0e"},
		{Num: "\x0e", Den: "\x07"},
		{Neg: true, Num: "\x0f", Den: "\x19"},
		{Num: long, Den: "\x02"},
		{Num: "\x02", Den: long},
		{Num: long, Den: long},
		{Num: long + "\x02", Den: "\x03"},
	}
}

// check reports an error if got is not the valid number want.
func check(t *testing.T, what string, got api.Rat, want *big.Rat) {
	t.Helper()
	if got != rat(want) {
		t.Errorf("%s = %#v, want %v", what, got, want)
	}
}

func TestValid(t *testing.T) {
	for _, x := range numbers() {
		if !rational.Valid(rat(x)) {
			t.Errorf("P2.1: Valid(%v) = false", x)
		}
	}
	for _, r := range invalid() {
		if rational.Valid(r) {
			t.Errorf("P2.1: Valid(%#v) = true", r)
		}
	}
}

// Every pair of short numerators and denominators is valid or not as the
// definition says.
func TestValidOfAllShortNumbers(t *testing.T) {
	for num := range int64(60) {
		for den := range int64(60) {
			for _, neg := range []bool{false, true} {
				r := api.Rat{Neg: neg, Num: natural.FromUint(uint64(num)), Den: natural.FromUint(uint64(den))}
				want := den == 0 || den >= 2 && new(big.Int).GCD(nil, nil, big.NewInt(num), big.NewInt(den)).Int64() == 1
				if num == 0 {
					want = den == 0 && !neg
				}
				if got := rational.Valid(r); got != want {
					t.Errorf("P2.1: Valid(%v, %d, %d) = %v", neg, num, den, got)
				}
			}
		}
	}
}

func TestMake(t *testing.T) {
	for _, num := range append(naturals(), new(big.Int)) {
		for _, den := range naturals() {
			want := new(big.Rat).SetFrac(num, den)
			for _, zeros := range []string{"", "\x00", "\x00\x00\x00"} {
				got, ok := rational.Make(false, zeros+string(num.Bytes()), string(den.Bytes()))
				check(t, "P2.2: Make", got, want)
				negative, negativeOK := rational.Make(true, string(num.Bytes()), zeros+string(den.Bytes()))
				check(t, "P2.2: Make of a negative number", negative, new(big.Rat).Neg(want))
				if !ok || !negativeOK {
					t.Errorf("P2.2: Make(%v, %v) is refused", num, den)
				}
			}
		}
	}
}

func TestMakeWithoutDenominator(t *testing.T) {
	for _, num := range []string{"", "\x00", "\x01", "\x00\x05", "\xff\xff\xff\xff\xff\xff\xff\xff\xff"} {
		for _, den := range []string{"", "\x00", "\x00\x00\x00"} {
			for _, neg := range []bool{false, true} {
				if got, ok := rational.Make(neg, num, den); got != (api.Rat{}) || ok {
					t.Errorf("P2.2: Make(%v, %#v, %#v) = %#v, %v", neg, num, den, got, ok)
				}
			}
		}
	}
}

// integers returns numbers of int64 from all of its range.
func integers() []int64 {
	list := []int64{0, math.MaxInt64, math.MinInt64, math.MaxInt64 - 1, math.MinInt64 + 1}
	for _, n := range []int64{1, 2, 3, 4, 6, 7, 255, 256, 1000, 1<<31 - 1, 1 << 31, 1<<32 - 1, 1 << 32, 1 << 62, 3 << 61, 1e18} {
		list = append(list, n, -n)
	}
	return list
}

func TestInt(t *testing.T) {
	for _, n := range integers() {
		check(t, "P2.2: Int", rational.Int(n), new(big.Rat).SetInt64(n))
	}
}

func TestFraction(t *testing.T) {
	for _, a := range integers() {
		for _, b := range integers() {
			want := new(big.Rat)
			if b != 0 {
				want.SetFrac(big.NewInt(a), big.NewInt(b))
			}
			got, ok := rational.Fraction(a, b)
			check(t, "P2.2: Fraction", got, want)
			if ok != (b != 0) {
				t.Errorf("P2.2: Fraction(%d, %d): %v", a, b, ok)
			}
		}
	}
}

func TestInt64(t *testing.T) {
	list := append(numbers(), new(big.Rat).SetInt64(math.MaxInt64), new(big.Rat).SetInt64(math.MinInt64))
	for _, n := range integers() {
		list = append(list, new(big.Rat).SetInt64(n), new(big.Rat).Add(new(big.Rat).SetInt64(n), big.NewRat(1, 1)), new(big.Rat).Sub(new(big.Rat).SetInt64(n), big.NewRat(1, 1)), new(big.Rat).Add(new(big.Rat).SetInt64(n), big.NewRat(1, 2)))
	}
	for _, x := range list {
		want, wantOK := int64(0), x.IsInt() && x.Num().IsInt64()
		if wantOK {
			want = x.Num().Int64()
		}
		if got, ok := rational.Int64(rat(x)); got != want || ok != wantOK {
			t.Errorf("P2.3: Int64(%v) = %d, %v", x, got, ok)
		}
	}
}

func TestOrder(t *testing.T) {
	for _, x := range numbers() {
		if got := rational.Sign(rat(x)); got != x.Sign() {
			t.Errorf("P2.4: Sign(%v) = %d", x, got)
		}
		for _, y := range numbers() {
			if got := rational.Compare(rat(x), rat(y)); got != x.Cmp(y) {
				t.Errorf("P2.4: Compare(%v, %v) = %d", x, y, got)
			}
			lesser, greater := x, y
			if x.Cmp(y) > 0 {
				lesser, greater = y, x
			}
			check(t, "P2.4: Min", rational.Min(rat(x), rat(y)), lesser)
			check(t, "P2.4: Max", rational.Max(rat(x), rat(y)), greater)
		}
	}
}

func TestArithmetic(t *testing.T) {
	for _, x := range numbers() {
		check(t, "P2.5: Negate", rational.Negate(rat(x)), new(big.Rat).Neg(x))
		for _, y := range numbers() {
			check(t, "P2.5: Add", rational.Add(rat(x), rat(y)), new(big.Rat).Add(x, y))
			check(t, "P2.5: Subtract", rational.Subtract(rat(x), rat(y)), new(big.Rat).Sub(x, y))
			check(t, "P2.5: Multiply", rational.Multiply(rat(x), rat(y)), new(big.Rat).Mul(x, y))
			want, wantOK := new(big.Rat), y.Sign() != 0
			if wantOK {
				want.Quo(x, y)
			}
			got, ok := rational.Divide(rat(x), rat(y))
			check(t, "P2.5: Divide", got, want)
			if ok != wantOK {
				t.Errorf("P2.5: Divide(%v, %v): %v", x, y, ok)
			}
		}
	}
}

// Fractions with every pair of short denominators meet every kind of common
// divisor.
func TestArithmeticOfShortFractions(t *testing.T) {
	for a := int64(-4); a <= 13; a++ {
		for b := int64(1); b <= 12; b++ {
			for c := int64(-5); c <= 7; c += 2 {
				for d := int64(1); d <= 12; d++ {
					x, y := big.NewRat(a, b), big.NewRat(c, d)
					check(t, "P2.5: Add", rational.Add(rat(x), rat(y)), new(big.Rat).Add(x, y))
					check(t, "P2.5: Subtract", rational.Subtract(rat(x), rat(y)), new(big.Rat).Sub(x, y))
					check(t, "P2.5: Multiply", rational.Multiply(rat(x), rat(y)), new(big.Rat).Mul(x, y))
					got, ok := rational.Divide(rat(x), rat(y))
					check(t, "P2.5: Divide", got, new(big.Rat).Quo(x, y))
					if order := rational.Compare(rat(x), rat(y)); order != x.Cmp(y) || !ok {
						t.Errorf("P2.4: Compare(%v, %v) = %d", x, y, order)
					}
				}
			}
		}
	}
}

func TestSum(t *testing.T) {
	if rational.Sum(nil) != (api.Rat{}) || rational.Sum([]api.Rat{}) != (api.Rat{}) {
		t.Error("P2.5: Sum of nothing is not 0")
	}
	list, want := []api.Rat{}, new(big.Rat)
	for i, x := range numbers() {
		if i%3 == 1 {
			x = new(big.Rat).Abs(x)
		}
		list, want = append(list, rat(x)), want.Add(want, x)
		before := slices.Clone(list)
		check(t, "P2.5: Sum", rational.Sum(list), want)
		if !slices.Equal(list, before) {
			t.Fatal("Sum changes its argument")
		}
	}
}

// An element that is not valid counts as 0, and the others count.
func TestSumWithInvalidElements(t *testing.T) {
	list, want := []api.Rat{}, new(big.Rat)
	for i, r := range invalid() {
		list = append(list, r, fraction(1, int64(i+2)), r)
		want.Add(want, big.NewRat(1, int64(i+2)))
		check(t, "P2.5: Sum with invalid elements", rational.Sum(list), want)
		check(t, "P2.5: Sum of an invalid element", rational.Sum([]api.Rat{r}), new(big.Rat))
	}
}

func TestFloor(t *testing.T) {
	list := numbers()
	for a := int64(-25); a <= 25; a++ {
		for b := int64(1); b <= 8; b++ {
			list = append(list, big.NewRat(a, b))
		}
	}
	for _, x := range list {
		// Div of math/big rounds down for a positive divisor.
		want := new(big.Int).Div(x.Num(), x.Denom())
		check(t, "P2.6: Floor", rational.Floor(rat(x)), new(big.Rat).SetInt(want))
	}
}

// Every function takes a number that is not valid for 0, wherever it is.
func TestInvalidCountsAsZero(t *testing.T) {
	zero, third, minus := new(big.Rat), big.NewRat(1, 3), big.NewRat(-5, 2)
	for _, r := range invalid() {
		for _, x := range []*big.Rat{zero, third, minus} {
			check(t, "P2.5: Add of an invalid number", rational.Add(r, rat(x)), x)
			check(t, "P2.5: Add of an invalid number", rational.Add(rat(x), r), x)
			check(t, "P2.5: Subtract from an invalid number", rational.Subtract(r, rat(x)), new(big.Rat).Neg(x))
			check(t, "P2.5: Subtract of an invalid number", rational.Subtract(rat(x), r), x)
			check(t, "P2.5: Multiply of an invalid number", rational.Multiply(r, rat(x)), zero)
			check(t, "P2.5: Multiply by an invalid number", rational.Multiply(rat(x), r), zero)
			if rational.Compare(r, rat(x)) != -x.Sign() || rational.Compare(rat(x), r) != x.Sign() {
				t.Errorf("P2.4: Compare of %v with the invalid %#v", x, r)
			}
			lesser, greater := zero, x
			if x.Sign() < 0 {
				lesser, greater = x, zero
			}
			check(t, "P2.4: Min of an invalid number", rational.Min(r, rat(x)), lesser)
			check(t, "P2.4: Min with an invalid number", rational.Min(rat(x), r), lesser)
			check(t, "P2.4: Max of an invalid number", rational.Max(r, rat(x)), greater)
			check(t, "P2.4: Max with an invalid number", rational.Max(rat(x), r), greater)
			if got, ok := rational.Divide(rat(x), r); got != (api.Rat{}) || ok {
				t.Errorf("P2.5: Divide by the invalid %#v = %#v, %v", r, got, ok)
			}
		}
		check(t, "P2.5: Negate of an invalid number", rational.Negate(r), zero)
		check(t, "P2.6: Floor of an invalid number", rational.Floor(r), zero)
		if got, ok := rational.Divide(r, rat(third)); got != (api.Rat{}) || !ok {
			t.Errorf("P2.5: Divide of the invalid %#v = %#v, %v", r, got, ok)
		}
		if got, ok := rational.Int64(r); got != 0 || !ok {
			t.Errorf("P2.3: Int64 of the invalid %#v = %d, %v", r, got, ok)
		}
		if rational.Sign(r) != 0 || rational.Compare(r, api.Rat{Neg: true}) != 0 {
			t.Errorf("P2.4: Sign or Compare of the invalid %#v", r)
		}
		if rational.Min(r, r) != (api.Rat{}) || rational.Max(r, r) != (api.Rat{}) {
			t.Errorf("P2.4: Min or Max of the invalid %#v twice", r)
		}
		if rational.Format(r) != "0" || rational.Decimal(r, 2) != "0.00" {
			t.Errorf("P2.8: Format or Decimal of the invalid %#v", r)
		}
	}
}

func TestLawsOfTheField(t *testing.T) {
	one := rational.Int(1)
	for _, x := range few() {
		a := rat(x)
		if rational.Add(a, api.Rat{}) != a || rational.Multiply(a, one) != a || rational.Add(a, rational.Negate(a)) != (api.Rat{}) {
			t.Errorf("P2.9: neutral elements and the negative of %v", x)
		}
		if inverse, ok := rational.Divide(one, a); ok && rational.Multiply(a, inverse) != one {
			t.Errorf("P2.9: the inverse of %v", x)
		}
		for _, y := range few() {
			b := rat(y)
			if rational.Add(a, b) != rational.Add(b, a) || rational.Multiply(a, b) != rational.Multiply(b, a) {
				t.Errorf("P2.9: not commutative: %v, %v", x, y)
			}
			if rational.Add(rational.Subtract(a, b), b) != a {
				t.Errorf("P2.9: Subtract is not inverse: %v, %v", x, y)
			}
			if quotient, ok := rational.Divide(a, b); ok && rational.Multiply(quotient, b) != a {
				t.Errorf("P2.9: Divide is not inverse: %v, %v", x, y)
			}
			for _, z := range few() {
				checkThreeNumbers(t, a, b, rat(z))
			}
		}
	}
}

func checkThreeNumbers(t *testing.T, a, b, c api.Rat) {
	t.Helper()
	if rational.Add(rational.Add(a, b), c) != rational.Add(a, rational.Add(b, c)) {
		t.Errorf("P2.9: Add is not associative: %#v, %#v, %#v", a, b, c)
	}
	if rational.Multiply(rational.Multiply(a, b), c) != rational.Multiply(a, rational.Multiply(b, c)) {
		t.Errorf("P2.9: Multiply is not associative: %#v, %#v, %#v", a, b, c)
	}
	if rational.Multiply(a, rational.Add(b, c)) != rational.Add(rational.Multiply(a, b), rational.Multiply(a, c)) {
		t.Errorf("P2.9: not distributive: %#v, %#v, %#v", a, b, c)
	}
	order := rational.Compare(a, b)
	if rational.Compare(rational.Add(a, c), rational.Add(b, c)) != order {
		t.Errorf("P2.9: Add changes the order: %#v, %#v, %#v", a, b, c)
	}
	if rational.Compare(rational.Multiply(a, c), rational.Multiply(b, c)) != order*rational.Sign(c) {
		t.Errorf("P2.9: Multiply does not keep the order: %#v, %#v, %#v", a, b, c)
	}
	if order <= 0 && rational.Compare(b, c) <= 0 && rational.Compare(a, c) > 0 {
		t.Errorf("P2.9: the order is not transitive: %#v, %#v, %#v", a, b, c)
	}
}

// There is no limit to the length of a number.
func TestLongNumbers(t *testing.T) {
	x := new(big.Rat).SetFrac(power(3, 9000), power(10, 3000))
	y := new(big.Rat).SetFrac(new(big.Int).Neg(power(7, 5000)), power(6, 4000))
	check(t, "P2.5: Add of long numbers", rational.Add(rat(x), rat(y)), new(big.Rat).Add(x, y))
	check(t, "P2.5: Subtract of long numbers", rational.Subtract(rat(x), rat(y)), new(big.Rat).Sub(x, y))
	check(t, "P2.5: Multiply of long numbers", rational.Multiply(rat(x), rat(y)), new(big.Rat).Mul(x, y))
	got, ok := rational.Divide(rat(x), rat(y))
	check(t, "P2.5: Divide of long numbers", got, new(big.Rat).Quo(x, y))
	if !ok || rational.Compare(rat(x), rat(y)) != 1 || rational.Format(rat(y)) != y.String() {
		t.Error("P2.4, P2.5, P2.8: long numbers")
	}
}

func TestExamples(t *testing.T) {
	if got, ok := rational.Fraction(6, -4); rational.Format(got) != "-3/2" || !ok {
		t.Errorf("Fraction(6, -4) = %#v, %v", got, ok)
	}
	check(t, "Floor of -3/2", rational.Floor(fraction(-3, 2)), big.NewRat(-2, 1))
	if got, e := rational.Parse("3.250"); got != fraction(13, 4) || e != api.OK {
		t.Errorf("Parse of 3.250 = %#v, %d", got, e)
	}
	if got := rational.Decimal(fraction(-2, 3), 2); got != "-0.66" {
		t.Errorf("Decimal of -2/3 with 2 places = %s", got)
	}
}
