package calendar_test

import (
	"math"
	"math/rand"
	"slices"

	"insolvency/api"
)

// The model goes from day to day, so that the package is compared with the
// definitions and not with its own calculation.

// business reports what P5.2 says. Day 0 is a Monday.
func business(day int, holidays []int) bool {
	if day < 0 || day > api.MaxDays {
		return false
	}
	for _, h := range holidays {
		if h == day {
			return false
		}
	}
	return day%7 != 5 && day%7 != 6
}

// next returns what P5.3 says.
func next(day int, holidays []int) (int, api.Errno) {
	if len(holidays) > 1000 {
		return 0, api.ErrLong
	}
	for d := day; 0 <= day && d <= api.MaxDays; d++ {
		if business(d, holidays) {
			return d, api.OK
		}
	}
	return 0, api.ErrRange
}

// add returns what P5.4 says.
func add(day, n int, holidays []int) (int, api.Errno) {
	if n == 0 {
		return next(day, holidays)
	}
	if len(holidays) > 1000 {
		return 0, api.ErrLong
	}
	for d := day + 1; 0 <= day && day <= api.MaxDays && n > 0 && d <= api.MaxDays; d++ {
		if business(d, holidays) {
			n--
			if n == 0 {
				return d, api.OK
			}
		}
	}
	return 0, api.ErrRange
}

// count returns what P5.5 says.
func count(from, to int, holidays []int) (int, api.Errno) {
	if len(holidays) > 1000 {
		return 0, api.ErrLong
	}
	if min(from, to) < 0 || max(from, to) > api.MaxDays {
		return 0, api.ErrRange
	}
	n := 0
	for d := from; d < to; d++ {
		if business(d, holidays) {
			n++
		}
	}
	return n, api.OK
}

// lists returns lists of holidays: in any order, with repeated days, days at
// weekends and integers that are not days. They are the same in every run.
func lists() [][]int {
	odd := []int{math.MaxInt, math.MinInt, -1, -3, -7, api.MaxDays + 1, api.MaxDays + 3, 1 << 40}
	out := [][]int{
		nil, {}, {0}, {4}, {5}, {5, 6}, {7}, {7, 7, 7}, {9, 8, 7}, {0, 1, 2, 3, 4}, {14, 7, 7, 5, -2, 9, 1 << 40},
		odd, {api.MaxDays}, {api.MaxDays, api.MaxDays - 1, api.MaxDays}, {api.MaxDays - 4, api.MaxDays - 2, api.MaxDays - 3},
	}
	source := rand.New(rand.NewSource(5))
	for n := range 40 {
		list := []int{}
		for range 1 + source.Intn(25) {
			day := source.Intn(45)
			list = append(list, day, day/2, api.MaxDays-day)
		}
		if n%3 == 0 {
			list = append(list, odd...)
		}
		source.Shuffle(len(list), func(i, j int) { list[i], list[j] = list[j], list[i] })
		out = append(out, list)
	}
	return out
}

// span returns the integers from low to high.
func span(low, high int) []int {
	list := []int{}
	for d := low; d <= high; d++ {
		list = append(list, d)
	}
	return list
}

// around returns the first days, the last days, and integers beside them.
func around() []int {
	return slices.Concat(span(-9, 45), span(api.MaxDays-45, api.MaxDays+9))
}
