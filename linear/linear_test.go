package linear_test

import (
	"math/big"
	"slices"
	"testing"

	"insolvency/api"
	"insolvency/linear"
)

// all returns short matrices of all kinds, and mixed ones.
func all() []matrix {
	half, minus := big.NewRat(1, 2), big.NewRat(-2, 3)
	matrices := mixed()
	for _, size := range [][2]int{{1, 1}, {1, 2}, {1, 3}, {2, 1}, {3, 1}, {2, 2}, {2, 3}, {3, 2}} {
		matrices = append(matrices, short(size[0], size[1], []*big.Rat{new(big.Rat), big.NewRat(1, 1), half, minus})...)
	}
	return append(matrices, short(3, 3, integers(0, 1, -2))...)
}

func TestApply(t *testing.T) {
	for n, m := range all() {
		x := make([]*big.Rat, len(m[0]))
		for j := range x {
			x[j] = big.NewRat(int64((n+j)%7-3), int64(j%4+1))
		}
		got, e := linear.Apply(m.rats(), rats(x))
		if e != api.OK {
			t.Errorf("P3.1: Apply of %v: %d", m, e)
		}
		checkRow(t, "P3.1: Apply", got, m.applied(x))
	}
}

func TestReduce(t *testing.T) {
	for _, m := range all() {
		form, pivots, e := linear.Reduce(m.rats())
		wantForm, wantPivots, _ := m.reduced()
		if e != api.OK || !slices.Equal(pivots, wantPivots) {
			t.Errorf("P3.2: Reduce of %v: the pivots %v, %d, want %v", m, pivots, e, wantPivots)
		}
		checkMatrix(t, "P3.2: Reduce", form, wantForm)
		if rank, e := linear.Rank(m.rats()); rank != len(wantPivots) || e != api.OK {
			t.Errorf("P3.2: Rank of %v: %d, %d, want %d", m, rank, e, len(wantPivots))
		}
	}
}

// The form is what the definition says it is, whatever the calculation.
func TestFormOfReduce(t *testing.T) {
	for _, m := range all() {
		form, pivots, _ := linear.Reduce(m.rats())
		if len(form) != len(m) {
			t.Fatalf("P3.2: Reduce of %v: %d rows", m, len(form))
		}
		one := rat(big.NewRat(1, 1))
		for r, row := range form {
			lead := slices.IndexFunc(row, func(x api.Rat) bool { return x != api.Rat{} })
			if r >= len(pivots) {
				if lead >= 0 {
					t.Errorf("P3.2: Reduce of %v: row %d is not at the end of the rows that are not 0", m, r)
				}
				continue
			}
			if lead != pivots[r] || row[lead] != one || r > 0 && lead <= pivots[r-1] {
				t.Errorf("P3.2: Reduce of %v: the pivot of row %d", m, r)
			}
			for k := range form {
				if k != r && form[k][pivots[r]] != (api.Rat{}) {
					t.Errorf("P3.2: Reduce of %v: row %d in the pivot column of row %d", m, k, r)
				}
			}
		}
		if again, _, _ := linear.Reduce(form); !equalMatrices(again, form) {
			t.Errorf("P3.2: Reduce of the reduced form of %v: %#v", m, again)
		}
	}
}

// The reduced form belongs to the row space, not to the rows: each change that
// this test makes can be taken back.
func TestReduceOfOtherRows(t *testing.T) {
	for _, m := range mixed() {
		want, wantPivots, _ := linear.Reduce(m.rats())
		others := m.clone()
		slices.Reverse(others)
		for i := range others {
			k := (i + 1) % len(others)
			if k != i {
				others[i] = combined(others[i], big.NewRat(-5, 3), others[k], big.NewRat(int64(i), 2))
			}
		}
		form, pivots, e := linear.Reduce(others.rats())
		if e != api.OK || !slices.Equal(pivots, wantPivots) || !equalMatrices(form, want) {
			t.Errorf("P3.2: Reduce of other rows of %v: %#v, %v, %d", m, form, pivots, e)
		}
	}
}

func TestSolve(t *testing.T) {
	for _, m := range all() {
		if len(m) != len(m[0]) {
			continue
		}
		for _, b := range rightSides(m) {
			checkSolve(t, m, b)
		}
	}
}

// rightSides returns vectors of which some are and some are not in the space
// of the columns of a singular matrix.
func rightSides(m matrix) [][]*big.Rat {
	fractions, column := []*big.Rat{}, []*big.Rat{}
	for i := range m {
		fractions = append(fractions, big.NewRat(int64(5*i-3), 7))
		column = append(column, m[i][0])
	}
	return [][]*big.Rat{zeros(1, len(m))[0], fractions, column}
}

func checkSolve(t *testing.T, m matrix, b []*big.Rat) {
	t.Helper()
	x, e := linear.Solve(m.rats(), rats(b))
	_, pivots, determinant := m.reduced()
	if (e == api.ErrSingular) != (len(pivots) < len(m)) || e != api.OK && e != api.ErrSingular || e != api.OK && len(x) != 0 {
		t.Errorf("P3.3: Solve of %v: %#v, %d", m, x, e)
	}
	if got, _ := linear.Determinant(m.rats()); (e == api.ErrSingular) != (got == api.Rat{}) || (e == api.ErrSingular) != (determinant.Sign() == 0) {
		t.Errorf("P3.6: Solve of %v: %d, and Determinant: %#v", m, e, got)
	}
	if e != api.OK {
		return
	}
	if y, _ := linear.Apply(m.rats(), x); !slices.Equal(y, rats(b)) {
		t.Errorf("P3.6: Solve of %v and %v: %#v, and Apply of it: %#v", m, b, x, y)
	}
	augmented := m.clone()
	for i := range augmented {
		augmented[i] = append(augmented[i], b[i])
	}
	form, _, _ := augmented.reduced()
	for i, row := range form {
		if x[i] != rat(row[len(m)]) {
			t.Errorf("P3.3: Solve of %v and %v: element %d is %#v, want %v", m, b, i, x[i], row[len(m)])
		}
	}
}

func TestKernel(t *testing.T) {
	for _, m := range all() {
		got, e := linear.Kernel(m.rats())
		form, pivots, _ := m.reduced()
		want := matrix{}
		for f := range m[0] {
			if slices.Contains(pivots, f) {
				continue
			}
			x := zeros(1, len(m[0]))[0]
			x[f] = big.NewRat(1, 1)
			for r, c := range pivots {
				x[c] = new(big.Rat).Neg(form[r][f])
			}
			want = append(want, x)
		}
		if e != api.OK {
			t.Errorf("P3.4: Kernel of %v: %d", m, e)
		}
		checkMatrix(t, "P3.4: Kernel", got, want)
		for _, x := range got {
			if y, _ := linear.Apply(m.rats(), x); !slices.Equal(y, make([]api.Rat, len(m))) {
				t.Errorf("P3.4: %v times %#v of the kernel: %#v", m, x, y)
			}
		}
		if rank, _ := linear.Rank(m.rats()); rank+len(got) != len(m[0]) {
			t.Errorf("P3.6: the rank %d and %d vectors in the kernel of %v", rank, len(got), m)
		}
	}
}

func TestDeterminant(t *testing.T) {
	for _, m := range all() {
		if len(m) != len(m[0]) {
			continue
		}
		_, _, want := m.reduced()
		if got, e := linear.Determinant(m.rats()); got != rat(want) || e != api.OK {
			t.Errorf("P3.5: Determinant of %v: %#v, %d, want %v", m, got, e, want)
		}
		if len(m) > 5 {
			continue
		}
		if expanded := m.expanded(); expanded.Cmp(want) != 0 {
			t.Fatalf("the test itself: the determinant of %v: %v and %v", m, want, expanded)
		}
	}
}

// The determinant changes with the rows as the definition says.
func TestDeterminantOfOtherRows(t *testing.T) {
	for size := 2; size <= api.MaxDim; size++ {
		m := zeros(size, size)
		for i := range m {
			for j := range m {
				m[i][j] = big.NewRat(int64((i*i+3*i*j+j)%11-4), int64((i+2*j)%5+1))
			}
			m[i][i] = new(big.Rat).Add(m[i][i], big.NewRat(40, 1))
		}
		_, _, want := m.reduced()
		last := size - 1
		m[0], m[last] = m[last], m[0]
		if got, _ := linear.Determinant(m.rats()); got != rat(new(big.Rat).Neg(want)) {
			t.Errorf("P3.5: Determinant after an exchange of rows: %#v, want -%v", got, want)
		}
		m[1] = combined(m[1], big.NewRat(-3, 2), m[0], big.NewRat(5, 7))
		if got, _ := linear.Determinant(m.rats()); got != rat(new(big.Rat).Mul(big.NewRat(3, 2), want)) {
			t.Errorf("P3.5: Determinant after other changes of rows: %#v, want 3/2 of %v", got, want)
		}
		m[last] = m[0]
		if got, e := linear.Determinant(m.rats()); got != (api.Rat{}) || e != api.OK {
			t.Errorf("P3.5: Determinant of a matrix with equal rows: %#v, %d", got, e)
		}
	}
}

func TestExample(t *testing.T) {
	a := matrix{integers(1, 2), integers(2, 4)}
	form, pivots, e := linear.Reduce(a.rats())
	checkMatrix(t, "P3.2: Reduce", form, matrix{integers(1, 2), integers(0, 0)})
	if e != api.OK || !slices.Equal(pivots, []int{0}) {
		t.Errorf("P3.2: Reduce: %v, %d", pivots, e)
	}
	if x, e := linear.Solve(a.rats(), rats(integers(1, 2))); e != api.ErrSingular || len(x) != 0 {
		t.Errorf("P3.3: Solve: %#v, %d", x, e)
	}
	basis, e := linear.Kernel(a.rats())
	checkMatrix(t, "P3.4: Kernel", basis, matrix{integers(-2, 1)})
	if e != api.OK {
		t.Errorf("P3.4: Kernel: %d", e)
	}
}
