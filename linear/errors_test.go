package linear_test

import (
	"math/big"
	"math/rand"
	"slices"
	"testing"

	"insolvency/api"
	"insolvency/linear"
)

// rectangle returns a matrix of zeros, whose height and width may be 0.
func rectangle(height, width int) [][]api.Rat {
	a := make([][]api.Rat, height)
	for i := range a {
		a[i] = make([]api.Rat, width)
	}
	return a
}

// ragged returns a matrix in which row r has another length.
func ragged(height, width, r, other int) [][]api.Rat {
	a := rectangle(height, width)
	a[r] = make([]api.Rat, other)
	return a
}

// checkErrors reports an error unless each function refuses a with the error
// want and no other result. x is the second argument.
func checkErrors(t *testing.T, name string, a [][]api.Rat, x []api.Rat, want api.Errno) {
	t.Helper()
	if y, e := linear.Apply(a, x); e != want || len(y) != 0 {
		t.Errorf("P3.1: Apply of %s: %#v, %d, want %d", name, y, e, want)
	}
	if form, pivots, e := linear.Reduce(a); e != want || len(form) != 0 || len(pivots) != 0 {
		t.Errorf("P3.2: Reduce of %s: %#v, %v, %d, want %d", name, form, pivots, e, want)
	}
	if rank, e := linear.Rank(a); e != want || rank != 0 {
		t.Errorf("P3.2: Rank of %s: %d, %d, want %d", name, rank, e, want)
	}
	if y, e := linear.Solve(a, x); e != want || len(y) != 0 {
		t.Errorf("P3.3: Solve of %s: %#v, %d, want %d", name, y, e, want)
	}
	if basis, e := linear.Kernel(a); e != want || len(basis) != 0 {
		t.Errorf("P3.4: Kernel of %s: %#v, %d, want %d", name, basis, e, want)
	}
	if d, e := linear.Determinant(a); e != want || d != (api.Rat{}) {
		t.Errorf("P3.5: Determinant of %s: %#v, %d, want %d", name, d, e, want)
	}
}

func TestErrorsOfMatrices(t *testing.T) {
	const limit = api.MaxDim
	for _, x := range []struct {
		name string
		a    [][]api.Rat
		want api.Errno
	}{
		{"nil", nil, api.ErrShape},
		{"no rows", [][]api.Rat{}, api.ErrShape},
		{"a nil row", [][]api.Rat{nil}, api.ErrShape},
		{"an empty row", [][]api.Rat{{}}, api.ErrShape},
		{"empty rows", rectangle(3, 0), api.ErrShape},
		{"too many empty rows", rectangle(limit+1, 0), api.ErrShape},
		{"a first row that is empty", ragged(3, 2, 0, 0), api.ErrShape},
		{"a last row that is empty", ragged(3, 2, 2, 0), api.ErrShape},
		{"a first row that is longer", ragged(3, 2, 0, 3), api.ErrShape},
		{"a row that is longer", ragged(3, 2, 1, 3), api.ErrShape},
		{"a last row that is shorter", ragged(3, 2, 2, 1), api.ErrShape},
		{"too many rows, the last one longer", ragged(limit+1, 1, limit, 2), api.ErrShape},
		{"rows too long, one of them shorter", ragged(2, limit+1, 1, limit), api.ErrShape},
		{"too many rows", rectangle(limit+1, limit), api.ErrLong},
		{"too many rows of one element", rectangle(limit+1, 1), api.ErrLong},
		{"rows too long", rectangle(limit, limit+1), api.ErrLong},
		{"a row too long", rectangle(1, limit+1), api.ErrLong},
		{"too many rows, too long", rectangle(limit+1, limit+1), api.ErrLong},
		{"very many rows", rectangle(5000, 3), api.ErrLong},
	} {
		// The error of the matrix precedes that of the vector.
		for _, size := range []int{0, 1, limit, limit + 1} {
			checkErrors(t, x.name, x.a, make([]api.Rat, size), x.want)
		}
	}
}

func TestGreatestMatrices(t *testing.T) {
	for _, a := range [][][]api.Rat{rectangle(api.MaxDim, 1), rectangle(1, api.MaxDim), rectangle(api.MaxDim, api.MaxDim)} {
		y, e := linear.Apply(a, make([]api.Rat, len(a[0])))
		if e != api.OK || !slices.Equal(y, make([]api.Rat, len(a))) {
			t.Errorf("P3.1: Apply of zeros: %#v, %d", y, e)
		}
		form, pivots, e := linear.Reduce(a)
		if e != api.OK || !equalMatrices(form, a) || len(pivots) != 0 {
			t.Errorf("P3.2: Reduce of zeros: %#v, %v, %d", form, pivots, e)
		}
		if rank, e := linear.Rank(a); rank != 0 || e != api.OK {
			t.Errorf("P3.2: Rank of zeros: %d, %d", rank, e)
		}
		basis, e := linear.Kernel(a)
		if e != api.OK || len(basis) != len(a[0]) {
			t.Errorf("P3.4: Kernel of zeros: %#v, %d", basis, e)
		}
	}
}

func TestErrorsOfVectors(t *testing.T) {
	for _, x := range []struct {
		height, width, size int
		apply, solve        api.Errno
	}{
		{1, 1, 1, api.OK, api.ErrSingular},
		{3, 3, 3, api.OK, api.ErrSingular},
		{3, 3, 2, api.ErrShape, api.ErrShape},
		{3, 3, 4, api.ErrShape, api.ErrShape},
		{3, 3, 0, api.ErrShape, api.ErrShape},
		{2, 3, 3, api.OK, api.ErrShape},
		{2, 3, 2, api.ErrShape, api.ErrShape},
		{3, 2, 2, api.OK, api.ErrShape},
		{3, 2, 3, api.ErrShape, api.ErrShape},
		{3, 2, 17, api.ErrShape, api.ErrShape},
		{16, 16, 17, api.ErrShape, api.ErrShape},
		{16, 16, 16, api.OK, api.ErrSingular},
	} {
		a, v := rectangle(x.height, x.width), make([]api.Rat, x.size)
		if y, e := linear.Apply(a, v); e != x.apply || e != api.OK && len(y) != 0 {
			t.Errorf("P3.1: Apply of %v: %#v, %d", x, y, e)
		}
		if y, e := linear.Solve(a, v); e != x.solve || len(y) != 0 {
			t.Errorf("P3.3: Solve of %v: %#v, %d", x, y, e)
		}
		d, e := linear.Determinant(a)
		if (e == api.ErrShape) != (x.height != x.width) || e != api.OK && e != api.ErrShape || d != (api.Rat{}) {
			t.Errorf("P3.5: Determinant of %v: %#v, %d", x, d, e)
		}
	}
}

// A system without a solution and one with many are both singular.
func TestSingularSystems(t *testing.T) {
	a := matrix{integers(1, 2, 3), integers(4, 5, 6), integers(7, 8, 9)}
	for _, b := range [][]*big.Rat{integers(0, 0, 0), integers(6, 15, 24), integers(1, 0, 0), integers(0, 0, 1)} {
		if x, e := linear.Solve(a.rats(), rats(b)); e != api.ErrSingular || len(x) != 0 {
			t.Errorf("P3.3: Solve of a singular system: %#v, %d", x, e)
		}
	}
	for _, m := range []matrix{{integers(0)}, {integers(0, 1), integers(0, 1)}, {integers(0, 1), integers(0, 0)}, {integers(1, 0), integers(0, 0)}} {
		for _, last := range []int64{0, 1} {
			b := integers(make([]int64, len(m))...)
			b[len(b)-1] = big.NewRat(last, 1)
			if x, e := linear.Solve(m.rats(), rats(b)); e != api.ErrSingular || len(x) != 0 {
				t.Errorf("P3.3: Solve of %v: %#v, %d", m, x, e)
			}
		}
	}
}

// invalid returns numbers that break each rule of validity.
func invalid() []api.Rat {
	return []api.Rat{
		{Neg: true},
		{Den: "\x02"},
		{Num: "\x00\x05"},
		{Num: "\x05", Den: "\x00"},
		{Num: "\x05", Den: "\x01"},
		{Num: "\x05", Den: "\x00\x03"},
		{Num: "\x06", Den: "\x04"},
		{Neg: true, Num: "\x07", Den: "\x0e"},
	}
}

func TestInvalidCountsAsZero(t *testing.T) {
	m := matrix{integers(2, 0, 1), {big.NewRat(1, 2), big.NewRat(1, 3), new(big.Rat)}, integers(0, 5, 7), integers(0, 0, 0)}
	square, b := m[:3], integers(4, 0, -3)
	wantForm, wantPivots, _ := m.reduced()
	_, _, wantDeterminant := square.reduced()
	wantX, _ := linear.Solve(square.rats(), rats(b))
	for _, bad := range invalid() {
		a, v := m.rats(), rats(b)
		for _, row := range append(a, v) {
			for j, x := range row {
				if x == (api.Rat{}) {
					row[j] = bad
				}
			}
		}
		before, beforeV := cloneOf(a), slices.Clone(v)
		y, _ := linear.Apply(a, v)
		checkRow(t, "P3.1: Apply with invalid numbers", y, m.applied(b))
		form, pivots, _ := linear.Reduce(a)
		checkMatrix(t, "P3.2: Reduce with invalid numbers", form, wantForm)
		if rank, _ := linear.Rank(a); rank != len(wantPivots) || !slices.Equal(pivots, wantPivots) {
			t.Errorf("P3.2: Reduce and Rank with invalid numbers: %v, %d", pivots, rank)
		}
		if x, e := linear.Solve(a[:3], v); e != api.OK || !slices.Equal(x, wantX) {
			t.Errorf("P3.3: Solve with invalid numbers: %#v, %d", x, e)
		}
		if d, e := linear.Determinant(a[:3]); e != api.OK || d != rat(wantDeterminant) {
			t.Errorf("P3.5: Determinant with invalid numbers: %#v, %d", d, e)
		}
		basis, e := linear.Kernel([][]api.Rat{{bad, bad}, {bad, rat(big.NewRat(3, 1))}})
		checkMatrix(t, "P3.4: Kernel with invalid numbers", basis, matrix{integers(1, 0)})
		if e != api.OK || !equalMatrices(a, before) || !slices.Equal(v, beforeV) {
			t.Errorf("invalid arguments are modified, or Kernel: %d", e)
		}
	}
}

// scribble overwrites all elements of the rows.
func scribble(rows ...[]api.Rat) {
	for _, row := range rows {
		for j := range row[:cap(row)] {
			row[:cap(row)][j] = rat(big.NewRat(99, 1))
		}
	}
}

// No result shares memory with an argument or with another part of it.
func TestResultsAreNew(t *testing.T) {
	for _, m := range []matrix{
		{integers(1, 0, 2), integers(0, 1, 3), integers(0, 0, 0), integers(0, 0, 0)},
		{integers(0, 0, 0), integers(0, 0, 0)},
		{integers(2, 4, 6), integers(1, 2, 3)},
		{integers(1, 0), integers(0, 1)},
		{integers(5)},
	} {
		a, b := m.rats(), make([]api.Rat, len(m))
		x := make([]api.Rat, len(m[0]))
		form, pivots, _ := linear.Reduce(a)
		basis, _ := linear.Kernel(a)
		for _, rows := range [][][]api.Rat{form, basis} {
			for i := range rows {
				others := slices.Concat(cloneOf(rows[:i]), cloneOf(rows[i+1:]))
				scribble(rows[i])
				if !equalMatrices(others, slices.Concat(rows[:i], rows[i+1:])) {
					t.Errorf("rows of a result of %v share memory", m)
				}
			}
		}
		for i := range pivots {
			pivots[i] = 99
		}
		y, _ := linear.Apply(a, x)
		solution, _ := linear.Solve(a, b)
		scribble(y, solution)
		if !equalMatrices(a, m.rats()) || !slices.Equal(x, make([]api.Rat, len(x))) || !slices.Equal(b, make([]api.Rat, len(b))) {
			t.Errorf("the results of %v share memory with the arguments", m)
		}
		if again, _, _ := linear.Reduce(a); len(again) != len(m) || slices.ContainsFunc(again, func(row []api.Rat) bool { return slices.Contains(row, rat(big.NewRat(99, 1))) }) {
			t.Errorf("a later result of %v shares memory with an earlier one", m)
		}
	}
}

func TestArgumentsAreNotModified(t *testing.T) {
	for _, m := range mixed() {
		a, x, b := m.rats(), rats(m[len(m)-1]), make([]api.Rat, len(m))
		linear.Apply(a, x)
		linear.Reduce(a)
		linear.Rank(a)
		linear.Solve(a, b)
		linear.Kernel(a)
		linear.Determinant(a)
		if !equalMatrices(a, m.rats()) || !slices.Equal(x, rats(m[len(m)-1])) || !slices.Equal(b, make([]api.Rat, len(m))) {
			t.Errorf("an argument is modified: %v", m)
		}
	}
}

// Elements have no limit of their own.
func TestLongElements(t *testing.T) {
	source := rand.New(rand.NewSource(11))
	m, b := zeros(api.MaxDim, api.MaxDim), zeros(1, api.MaxDim)[0]
	for _, row := range append(slices.Clone(m), b) {
		for j := range row {
			row[j].SetFrac64(source.Int63()-source.Int63(), source.Int63()+1)
		}
	}
	x, e := linear.Solve(m.rats(), rats(b))
	values := []*big.Rat{}
	for _, r := range x {
		values = append(values, value(r))
	}
	if e != api.OK || len(x) != len(m) {
		t.Fatalf("P3.3: Solve of long elements: %d elements, %d", len(x), e)
	}
	checkRow(t, "P3.6: long elements times the result of Solve", rats(m.applied(values)), b)
	_, _, want := m.reduced()
	if d, e := linear.Determinant(m.rats()); d != rat(want) || e != api.OK {
		t.Errorf("P3.5: Determinant of long elements: %d", e)
	}
}
