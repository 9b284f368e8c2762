package linear_test

import (
	"math/big"
	"math/rand"
	"slices"
	"testing"

	"insolvency/api"
)

// A matrix of a test consists of numbers of math/big, so that the package is
// compared with calculations that do not use it.
type matrix [][]*big.Rat

// rat returns the api.Rat of x.
func rat(x *big.Rat) api.Rat {
	r := api.Rat{Neg: x.Sign() < 0, Num: string(x.Num().Bytes())}
	if !x.IsInt() {
		r.Den = string(x.Denom().Bytes())
	}
	return r
}

// value returns the number of a valid api.Rat.
func value(r api.Rat) *big.Rat {
	num, den := new(big.Int).SetBytes([]byte(r.Num)), big.NewInt(1)
	if r.Den != "" {
		den.SetBytes([]byte(r.Den))
	}
	if r.Neg {
		num.Neg(num)
	}
	return new(big.Rat).SetFrac(num, den)
}

func rats(row []*big.Rat) []api.Rat {
	out := make([]api.Rat, len(row))
	for j, x := range row {
		out[j] = rat(x)
	}
	return out
}

func (m matrix) rats() [][]api.Rat {
	out := make([][]api.Rat, len(m))
	for i, row := range m {
		out[i] = rats(row)
	}
	return out
}

func (m matrix) clone() matrix {
	out := make(matrix, len(m))
	for i, row := range m {
		out[i] = slices.Clone(row)
	}
	return out
}

// integers returns a row of integers.
func integers(list ...int64) []*big.Rat {
	row := []*big.Rat{}
	for _, n := range list {
		row = append(row, big.NewRat(n, 1))
	}
	return row
}

// zeros returns a matrix of zeros.
func zeros(height, width int) matrix {
	m := make(matrix, height)
	for i := range m {
		m[i] = integers(make([]int64, width)...)
	}
	return m
}

// reduced returns the reduced row echelon form of m, its pivot columns, and
// the determinant if m is square.
func (m matrix) reduced() (matrix, []int, *big.Rat) {
	form, pivots, determinant := m.clone(), []int{}, big.NewRat(1, 1)
	for c := range m[0] {
		r := len(pivots)
		i := r
		for i < len(form) && form[i][c].Sign() == 0 {
			i++
		}
		if i == len(form) {
			determinant = new(big.Rat)
			continue
		}
		if i != r {
			form[i], form[r] = form[r], form[i]
			determinant = new(big.Rat).Neg(determinant)
		}
		determinant = new(big.Rat).Mul(determinant, form[r][c])
		form[r] = combined(form[r], new(big.Rat).Inv(form[r][c]), form[r], new(big.Rat))
		for k, row := range form {
			if k != r {
				form[k] = combined(row, big.NewRat(1, 1), form[r], new(big.Rat).Neg(row[c]))
			}
		}
		pivots = append(pivots, c)
	}
	return form, pivots, determinant
}

// combined returns x * p + y * q.
func combined(x []*big.Rat, p *big.Rat, y []*big.Rat, q *big.Rat) []*big.Rat {
	out := make([]*big.Rat, len(x))
	for j := range x {
		out[j] = new(big.Rat).Add(new(big.Rat).Mul(x[j], p), new(big.Rat).Mul(y[j], q))
	}
	return out
}

// applied returns the product of m and the column vector x.
func (m matrix) applied(x []*big.Rat) []*big.Rat {
	y := make([]*big.Rat, len(m))
	for i, row := range m {
		y[i] = new(big.Rat)
		for j := range row {
			y[i].Add(y[i], new(big.Rat).Mul(row[j], x[j]))
		}
	}
	return y
}

// expanded returns the determinant of m by expansion along the first row.
func (m matrix) expanded() *big.Rat {
	if len(m) == 0 {
		return big.NewRat(1, 1)
	}
	sum := new(big.Rat)
	for c, x := range m[0] {
		minor := matrix{}
		for _, row := range m[1:] {
			minor = append(minor, slices.Concat(row[:c], row[c+1:]))
		}
		term := new(big.Rat).Mul(x, minor.expanded())
		if c%2 == 1 {
			term.Neg(term)
		}
		sum.Add(sum, term)
	}
	return sum
}

// short returns all matrices of this height and width with elements of list.
func short(height, width int, list []*big.Rat) []matrix {
	count := 1
	for range height * width {
		count *= len(list)
	}
	matrices := make([]matrix, count)
	for n := range matrices {
		matrices[n] = zeros(height, width)
		rest := n
		for place := range height * width {
			matrices[n][place/width][place%width] = list[rest%len(list)]
			rest /= len(list)
		}
	}
	return matrices
}

// mixed returns matrices of all heights and widths up to MaxDim and of all
// ranks, with zeros, integers and fractions. They are the same in every run.
func mixed() []matrix {
	source := rand.New(rand.NewSource(7))
	matrices := []matrix{}
	for height := 1; height <= api.MaxDim; height++ {
		for width := 1; width <= api.MaxDim; width++ {
			rank := source.Intn(min(height, width) + 1)
			matrices = append(matrices, ofRank(source, height, width, rank))
		}
	}
	for size := 1; size <= api.MaxDim; size++ {
		matrices = append(matrices, ofRank(source, size, size, size), ofRank(source, size, size, size-1))
	}
	return matrices
}

// ofRank returns a matrix that has at most this rank, and nearly always this
// rank: the rows are sums of multiples of as many rows.
func ofRank(source *rand.Rand, height, width, rank int) matrix {
	m := zeros(height, width)
	for range rank {
		column, row := numbers(source, height), numbers(source, width)
		for i := range m {
			m[i] = combined(m[i], big.NewRat(1, 1), row, column[i])
		}
	}
	return m
}

// numbers returns a list of numbers, a third of which are 0.
func numbers(source *rand.Rand, size int) []*big.Rat {
	list := []*big.Rat{}
	for range size {
		list = append(list, big.NewRat(int64(source.Intn(3)*(source.Intn(19)-9)), int64(1+source.Intn(4))))
	}
	return list
}

func checkRow(t *testing.T, what string, got []api.Rat, want []*big.Rat) {
	t.Helper()
	if !slices.Equal(got, rats(want)) {
		t.Errorf("%s = %#v, want %v", what, got, want)
	}
}

func checkMatrix(t *testing.T, what string, got [][]api.Rat, want matrix) {
	t.Helper()
	if len(got) != len(want) {
		t.Errorf("%s: %d rows, want %d", what, len(got), len(want))
		return
	}
	for i := range got {
		checkRow(t, what, got[i], want[i])
	}
}

func equalMatrices(a, b [][]api.Rat) bool {
	return slices.EqualFunc(a, b, func(x, y []api.Rat) bool { return slices.Equal(x, y) })
}

func cloneOf(a [][]api.Rat) [][]api.Rat {
	out := make([][]api.Rat, len(a))
	for i, row := range a {
		out[i] = slices.Clone(row)
	}
	return out
}
