package linear

import (
	"slices"

	"insolvency/api"
	"insolvency/natural"
	"insolvency/rational"
)

// The functions of this file calculate with rows of integers, because
// fractions would be brought to lowest terms after each step, which takes much
// longer than the step itself. All numbers are valid.

// one is the natural number 1.
const one = "\x01"

// integral returns a with each row multiplied by the least number that makes
// it a row of integers, and the product of these numbers.
func integral(a [][]api.Rat) ([][]api.Rat, api.Rat) {
	rows := make([][]api.Rat, len(a))
	product := rational.Int(1)
	for i, row := range a {
		factor := commonDenominator(row)
		product = rational.Multiply(product, factor)
		rows[i] = make([]api.Rat, len(row))
		for j, x := range row {
			rows[i][j] = rational.Multiply(x, factor)
		}
	}
	return rows, product
}

// commonDenominator returns the least positive integer whose products with all
// elements of row are integers. The elements need not be valid.
func commonDenominator(row []api.Rat) api.Rat {
	multiple := one
	for _, x := range row {
		if x.Den == "" || !rational.Valid(x) {
			continue
		}
		missing, _, _ := natural.Divide(x.Den, natural.GCD(multiple, x.Den))
		multiple = natural.Multiply(multiple, missing)
	}
	return api.Rat{Num: multiple}
}

// eliminate transforms the rows such that, within the first width columns,
// each one is a multiple of a row of the reduced form. It returns the pivot
// columns, whose number is that of the rows that are not zero there.
func eliminate(rows [][]api.Rat, width int) []int {
	pivots := []int{}
	for c := range width {
		r := len(pivots)
		i := pivotRow(rows, r, c)
		if i < 0 {
			continue
		}
		rows[r], rows[i] = rows[i], rows[r]
		for k, row := range rows {
			if k != r && rational.Sign(row[c]) != 0 {
				rows[k] = primitive(cleared(row, rows[r], c))
			}
		}
		pivots = append(pivots, c)
	}
	return pivots
}

// integralDeterminant returns the determinant of a square matrix of integers,
// which it transforms.
func integralDeterminant(rows [][]api.Rat) api.Rat {
	negative := false
	last := rational.Int(1)
	for c := range rows {
		i := pivotRow(rows, c, c)
		if i < 0 {
			return api.Rat{}
		}
		if i != c {
			rows[c], rows[i] = rows[i], rows[c]
			negative = !negative
		}
		// Each element of the rows below becomes the determinant of a part of
		// the matrix (Bareiss's method). So last divides it.
		for k := c + 1; k < len(rows); k++ {
			rows[k] = divided(cleared(rows[k], rows[c], c), last)
		}
		last = rows[c][c]
	}
	if negative {
		return rational.Negate(last)
	}
	return last
}

// pivotRow returns the first row from r on that is not 0 in column c, or -1 if
// there is none.
func pivotRow(rows [][]api.Rat, r, c int) int {
	for i := r; i < len(rows); i++ {
		if rational.Sign(rows[i][c]) != 0 {
			return i
		}
	}
	return -1
}

// cleared returns the multiple of row by the element of pivot in column c,
// minus the multiple of pivot that makes the difference 0 in this column.
func cleared(row, pivot []api.Rat, c int) []api.Rat {
	difference := make([]api.Rat, len(row))
	for j := range row {
		difference[j] = rational.Subtract(rational.Multiply(pivot[c], row[j]), rational.Multiply(row[c], pivot[j]))
	}
	return difference
}

// primitive returns row divided by the greatest common divisor of its
// elements. Without this division they would double their length in each step.
func primitive(row []api.Rat) []api.Rat {
	divisor := ""
	for _, x := range row {
		divisor = natural.GCD(divisor, x.Num)
		if divisor == one {
			break
		}
	}
	if divisor == "" || divisor == one {
		return row
	}
	return divided(row, api.Rat{Num: divisor})
}

// divided returns row divided by the integer d, which is not 0 and divides all
// of its elements.
func divided(row []api.Rat, d api.Rat) []api.Rat {
	quotients := make([]api.Rat, len(row))
	for j, x := range row {
		// rational.Divide would first look for common divisors.
		quotient, _, _ := natural.Divide(x.Num, d.Num)
		quotients[j], _ = rational.Make(x.Neg != d.Neg, quotient, one)
	}
	return quotients
}

// fractions returns row divided by d, which is not 0.
func fractions(row []api.Rat, d api.Rat) []api.Rat {
	quotients := slices.Clone(row)
	for j, x := range row {
		quotients[j], _ = rational.Divide(x, d)
	}
	return quotients
}
