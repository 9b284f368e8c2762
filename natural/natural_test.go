package natural_test

import (
	"bytes"
	"math"
	"math/big"
	"math/rand"
	"strings"
	"testing"

	"insolvency/api"
	"insolvency/natural"
)

func power(base, exponent int64) *big.Int {
	return new(big.Int).Exp(big.NewInt(base), big.NewInt(exponent), nil)
}

func text(x *big.Int) string { return string(x.Bytes()) }

func value(n string) *big.Int { return new(big.Int).SetBytes([]byte(n)) }

// edges returns numbers beside the powers at which the number of bytes, words
// or decimal chunks changes.
func edges() []*big.Int {
	one := big.NewInt(1)
	list := []*big.Int{big.NewInt(0), one, big.NewInt(2), big.NewInt(3), big.NewInt(6), big.NewInt(7), big.NewInt(1000)}
	powers := []*big.Int{power(10, 9), power(10, 18), power(10, 27), power(10, 40)}
	for _, bits := range []int64{8, 16, 24, 31, 32, 33, 40, 63, 64, 65, 96, 128, 160, 256} {
		powers = append(powers, power(2, bits))
	}
	for _, p := range powers {
		list = append(list, new(big.Int).Sub(p, one), p, new(big.Int).Add(p, one))
	}
	return list
}

// awkward returns numbers of 32-bit digits that make a quotient hard to
// estimate. They are the same in every run.
func awkward(count, digits int) []*big.Int {
	source := rand.New(rand.NewSource(7))
	choices := []uint32{0, 1, 2, 1<<31 - 1, 1 << 31, 1<<31 + 1, 1<<32 - 2, 1<<32 - 1}
	list := make([]*big.Int, count)
	for i := range list {
		x := new(big.Int)
		for range 1 + source.Intn(digits) {
			limb := choices[source.Intn(len(choices))]
			if source.Intn(8) == 0 {
				limb = source.Uint32()
			}
			x.Or(x.Lsh(x, 32), new(big.Int).SetUint64(uint64(limb)))
		}
		list[i] = x
	}
	return list
}

func numbers() []*big.Int { return append(edges(), awkward(60, 9)...) }

func TestNormalize(t *testing.T) {
	for _, c := range []struct{ n, want string }{
		{"", ""},
		{"\x00", ""},
		{"\x00\x00\x00", ""},
		{"\x01", "\x01"},
		{"\x00\x01", "\x01"},
		{"\x00\x00\x01\x00\x00", "\x01\x00\x00"},
		{"\x01\x00", "\x01\x00"},
		{"\x00\xff\xfe", "\xff\xfe"},
		{"0", "0"},
		{strings.Repeat("\x00", 1000) + "x\x00", "x\x00"},
	} {
		if got := natural.Normalize(c.n); got != c.want {
			t.Errorf("P1.1: Normalize(%x) = %x, want %x", c.n, got, c.want)
		}
	}
}

func TestFromUint(t *testing.T) {
	for _, c := range []struct {
		u    uint64
		want string
	}{
		{0, ""},
		{1, "\x01"},
		{255, "\xff"},
		{256, "\x01\x00"},
		{1<<32 - 1, "\xff\xff\xff\xff"},
		{1 << 32, "\x01\x00\x00\x00\x00"},
		{0x0102030405060708, "\x01\x02\x03\x04\x05\x06\x07\x08"},
		{math.MaxUint64, "\xff\xff\xff\xff\xff\xff\xff\xff"},
	} {
		if got := natural.FromUint(c.u); got != c.want {
			t.Errorf("P1.2: FromUint(%d) = %x, want %x", c.u, got, c.want)
		}
	}
}

func TestUint(t *testing.T) {
	for _, x := range numbers() {
		for _, zeros := range []string{"", "\x00", strings.Repeat("\x00", 20)} {
			want, wantOK := uint64(0), x.IsUint64()
			if wantOK {
				want = x.Uint64()
			}
			if got, ok := natural.Uint(zeros + text(x)); got != want || ok != wantOK {
				t.Errorf("P1.2: Uint(%v) = %d, %v", x, got, ok)
			}
		}
	}
}

func TestCompare(t *testing.T) {
	list := numbers()
	for _, x := range list {
		for _, y := range list {
			for _, a := range []string{text(x), "\x00\x00\x00" + text(x)} {
				for _, b := range []string{text(y), "\x00" + text(y)} {
					if got := natural.Compare(a, b); got != x.Cmp(y) {
						t.Errorf("P1.3: Compare(%x, %x) = %d, want %d", a, b, got, x.Cmp(y))
					}
				}
			}
		}
	}
}

func TestSumAndProduct(t *testing.T) {
	list := numbers()
	for _, x := range list {
		for _, y := range list {
			a, b := "\x00"+text(x), text(y)
			if got, want := natural.Add(a, b), text(new(big.Int).Add(x, y)); got != want {
				t.Errorf("P1.4: Add(%v, %v) = %x, want %x", x, y, got, want)
			}
			if got, want := natural.Multiply(a, b), text(new(big.Int).Mul(x, y)); got != want {
				t.Errorf("P1.4: Multiply(%v, %v) = %x, want %x", x, y, got, want)
			}
		}
	}
}

func TestSubtract(t *testing.T) {
	list := numbers()
	for _, x := range list {
		for _, y := range list {
			want, wantOK := "", x.Cmp(y) >= 0
			if wantOK {
				want = text(new(big.Int).Sub(x, y))
			}
			for _, zeros := range []string{"", strings.Repeat("\x00", 50)} {
				for _, arguments := range [][2]string{{zeros + text(x), text(y)}, {text(x), zeros + text(y)}} {
					got, ok := natural.Subtract(arguments[0], arguments[1])
					if got != want || ok != wantOK {
						t.Errorf("P1.4: Subtract(%v, %v) = %x, %v, want %x, %v", x, y, got, ok, want, wantOK)
					}
				}
			}
		}
	}
}

func checkDivide(t *testing.T, x, y *big.Int) {
	t.Helper()
	q, r, ok := natural.Divide("\x00"+text(x), "\x00\x00"+text(y))
	wantQ, wantR := new(big.Int).QuoRem(x, y, new(big.Int))
	if q != text(wantQ) || r != text(wantR) || !ok {
		t.Errorf("P1.5: Divide(%v, %v) = %x, %x, %v", x, y, q, r, ok)
	}
}

func TestDivide(t *testing.T) {
	list := numbers()
	for _, x := range list {
		for _, y := range list {
			if y.Sign() > 0 {
				checkDivide(t, x, y)
				checkDivide(t, new(big.Int).Mul(x, y), y)
			}
		}
	}
	for _, x := range awkward(300, 9) {
		for _, y := range awkward(300, 4) {
			if y.Sign() > 0 {
				checkDivide(t, x, y)
			}
		}
	}
}

// The first estimate of a digit of these quotients is too great by 1 or 2, or
// does not fit into a digit.
func TestDivideWithCorrections(t *testing.T) {
	for _, c := range [][2]string{
		{"7fffffff800000010000000000000000", "800000008000000200000005"},
		{"800000000000000000000003", "200000000000000000000001"},
		{"fffffffffffffffe0000000000000000", "ffffffffffffffffffffffff"},
		{"7fffffffffffffffffffffffffffffff", "80000000ffffffffffffffff"},
	} {
		x, _ := new(big.Int).SetString(c[0], 16)
		y, _ := new(big.Int).SetString(c[1], 16)
		checkDivide(t, x, y)
	}
}

func TestDivideByZero(t *testing.T) {
	for _, x := range numbers() {
		for _, zero := range []string{"", "\x00", strings.Repeat("\x00", 9)} {
			if q, r, ok := natural.Divide(text(x), zero); q != "" || r != "" || ok {
				t.Errorf("P1.5: Divide(%v, 0) = %x, %x, %v", x, q, r, ok)
			}
		}
	}
}

func checkGCD(t *testing.T, x, y *big.Int) {
	t.Helper()
	want := text(new(big.Int).GCD(nil, nil, x, y))
	if got := natural.GCD(text(x), "\x00"+text(y)); got != want {
		t.Errorf("P1.6: GCD(%v, %v) = %x, want %x", x, y, got, want)
	}
}

func TestGCD(t *testing.T) {
	list := numbers()
	for _, x := range list {
		for _, y := range list {
			checkGCD(t, x, y)
		}
	}
	for _, factor := range awkward(20, 5) {
		for _, x := range awkward(20, 5) {
			for _, y := range awkward(20, 3) {
				checkGCD(t, new(big.Int).Mul(x, factor), new(big.Int).Mul(y, factor))
			}
		}
	}
}

func TestGCDOfZero(t *testing.T) {
	for _, x := range numbers() {
		for _, zero := range []string{"", "\x00\x00\x00"} {
			if got := natural.GCD(zero, "\x00"+text(x)); got != text(x) {
				t.Errorf("P1.6: GCD(0, %v) = %x", x, got)
			}
			if got := natural.GCD("\x00"+text(x), zero); got != text(x) {
				t.Errorf("P1.6: GCD(%v, 0) = %x", x, got)
			}
		}
	}
	if got := natural.GCD("", ""); got != "" {
		t.Errorf("P1.6: GCD(0, 0) = %x", got)
	}
}

// Neighbours among the Fibonacci numbers take Euclid's algorithm the most
// steps.
func TestGCDOfFibonacciNumbers(t *testing.T) {
	x, y := big.NewInt(0), big.NewInt(1)
	for range 1000 {
		x, y = y, new(big.Int).Add(x, y)
	}
	checkGCD(t, x, y)
	checkGCD(t, y, x)
	checkGCD(t, new(big.Int).Mul(x, power(7, 90)), new(big.Int).Mul(y, power(7, 80)))
}

func TestParse(t *testing.T) {
	for _, s := range []string{
		"0", "1", "9", "10", "255", "256", "999999999", "1000000000", "1000000001", "100000000000000000",
		"4294967295", "4294967296", "18446744073709551615", "18446744073709551616",
		"1" + strings.Repeat("0", api.MaxDigits-1), strings.Repeat("9", api.MaxDigits), strings.Repeat("7", 1234),
	} {
		want, _ := new(big.Int).SetString(s, 10)
		if got, e := natural.Parse(s); got != text(want) || e != api.OK {
			t.Errorf("P1.7: Parse(%s) = %x, %d", s, got, e)
		}
	}
}

func TestParseErrors(t *testing.T) {
	long := strings.Repeat("9", api.MaxDigits)
	for _, c := range []struct {
		s    string
		want api.Errno
	}{
		{"", api.ErrNumber},
		{"00", api.ErrNumber},
		{"007", api.ErrNumber},
		{"0123456789", api.ErrNumber},
		{"-1", api.ErrNumber},
		{"+1", api.ErrNumber},
		{" 1", api.ErrNumber},
		{"1 ", api.ErrNumber},
		{"1_0", api.ErrNumber},
		{"1.5", api.ErrNumber},
		{"1/2", api.ErrNumber},
		{"1:2", api.ErrNumber},
		{"a", api.ErrNumber},
		{"/", api.ErrNumber},
		{":", api.ErrNumber},
		{"0x1", api.ErrNumber},
		{"1e9", api.ErrNumber},
		{"\x00", api.ErrNumber},
		{"\xff", api.ErrNumber},
		{"1\n", api.ErrNumber},
		{"\u0663", api.ErrNumber},
		{long + "9", api.ErrLong},
		{long + long + long, api.ErrLong},
		{long + "x", api.ErrNumber},
		{"0" + long, api.ErrNumber},
		{strings.Repeat("0", api.MaxDigits+1), api.ErrNumber},
	} {
		if got, e := natural.Parse(c.s); got != "" || e != c.want {
			t.Errorf("P1.7: Parse(%.20q..) = %x, %d, want error %d", c.s, got, e, c.want)
		}
	}
}

func TestFormat(t *testing.T) {
	list := append(numbers(), power(10, 1999), power(10, 3000), power(2, 9999))
	for digits := int64(1); digits < 60; digits++ {
		list = append(list, power(10, digits), new(big.Int).Mul(power(10, digits), big.NewInt(3)))
	}
	for _, x := range list {
		for _, zeros := range []string{"", "\x00\x00\x00\x00\x00"} {
			if got := natural.Format(zeros + text(x)); got != x.String() {
				t.Errorf("P1.7: Format(%v) = %s", x, got)
			}
		}
		if s := x.String(); len(s) <= api.MaxDigits {
			if got, e := natural.Parse(natural.Format(text(x))); got != text(x) || e != api.OK {
				t.Errorf("P1.7: Parse of Format of %v = %x, %d", x, got, e)
			}
		}
	}
}

func TestLawsOfSumAndProduct(t *testing.T) {
	list := append(awkward(14, 6), big.NewInt(0), big.NewInt(1), power(2, 64))
	for _, x := range list {
		for _, y := range list {
			a, b := text(x), text(y)
			if natural.Add(a, b) != natural.Add(b, a) || natural.Multiply(a, b) != natural.Multiply(b, a) {
				t.Errorf("P1.8: not commutative: %v, %v", x, y)
			}
			for _, z := range list {
				checkThreeNumbers(t, a, b, text(z))
			}
		}
	}
}

func checkThreeNumbers(t *testing.T, a, b, c string) {
	t.Helper()
	if natural.Add(natural.Add(a, b), c) != natural.Add(a, natural.Add(b, c)) {
		t.Errorf("P1.8: Add is not associative: %x, %x, %x", a, b, c)
	}
	if natural.Multiply(natural.Multiply(a, b), c) != natural.Multiply(a, natural.Multiply(b, c)) {
		t.Errorf("P1.8: Multiply is not associative: %x, %x, %x", a, b, c)
	}
	if natural.Multiply(a, natural.Add(b, c)) != natural.Add(natural.Multiply(a, b), natural.Multiply(a, c)) {
		t.Errorf("P1.8: not distributive: %x, %x, %x", a, b, c)
	}
}

func TestDivideIsInverse(t *testing.T) {
	for _, x := range numbers() {
		for _, y := range numbers() {
			a, b := text(x), text(y)
			q, r, ok := natural.Divide(a, b)
			if !ok {
				continue
			}
			if natural.Add(natural.Multiply(q, b), r) != a || natural.Compare(r, b) >= 0 {
				t.Errorf("P1.8: Divide(%v, %v) = %x, %x", x, y, q, r)
			}
		}
	}
}

func divides(d, n uint64) bool { return d != 0 && n%d == 0 || n == 0 }

func TestGCDIsGreatest(t *testing.T) {
	for x := range uint64(70) {
		for y := range uint64(70) {
			g, _ := natural.Uint(natural.GCD(natural.FromUint(x), natural.FromUint(y)))
			if !divides(g, x) || !divides(g, y) {
				t.Errorf("P1.8: GCD(%d, %d) = %d does not divide both", x, y, g)
			}
			for d := range uint64(70) {
				if divides(d, x) && divides(d, y) && !divides(d, g) {
					t.Errorf("P1.8: %d divides %d and %d, but not %d", d, x, y, g)
				}
			}
		}
	}
}

func TestExamples(t *testing.T) {
	if got := natural.Add("\xff", "\x01"); got != "\x01\x00" {
		t.Errorf("Add of 255 and 1 = %x", got)
	}
	q, r, ok := natural.Divide("\x03\xe8", "\x07")
	if q != "\x8e" || r != "\x06" || !ok {
		t.Errorf("Divide of 1000 by 7 = %x, %x, %v", q, r, ok)
	}
	if got, e := natural.Parse("007"); got != "" || e != api.ErrNumber {
		t.Errorf("Parse of 007 = %x, %d", got, e)
	}
}

// There is no limit to the length of a number.
func TestLongNumbers(t *testing.T) {
	source := rand.New(rand.NewSource(11))
	digits := make([]byte, 6000)
	source.Read(digits)
	x := value(string(digits))
	y := value(string(bytes.Repeat([]byte{0xff}, 2500)))
	if natural.Add(text(x), text(y)) != text(new(big.Int).Add(x, y)) {
		t.Error("P1.4: Add of long numbers")
	}
	if natural.Multiply(text(x), text(y)) != text(new(big.Int).Mul(x, y)) {
		t.Error("P1.4: Multiply of long numbers")
	}
	if got, ok := natural.Subtract(text(x), text(y)); got != text(new(big.Int).Sub(x, y)) || !ok {
		t.Error("P1.4: Subtract of long numbers")
	}
	checkDivide(t, x, y)
	checkGCD(t, new(big.Int).Mul(x, y), new(big.Int).Mul(y, y))
	if natural.Format(text(x)) != x.String() {
		t.Error("P1.7: Format of a long number")
	}
}
