package calendar_test

import (
	"math"
	"slices"
	"testing"

	"insolvency/api"
	"insolvency/calendar"
)

func checkNext(t *testing.T, day int, holidays []int, want int, wantError api.Errno) {
	t.Helper()
	if got, e := calendar.Next(day, holidays); got != want || e != wantError {
		t.Errorf("P5.3: Next(%d) with %d holidays: %d, %d, want %d, %d", day, len(holidays), got, e, want, wantError)
	}
}

func checkAdd(t *testing.T, day, n int, holidays []int, want int, wantError api.Errno) {
	t.Helper()
	if got, e := calendar.Add(day, n, holidays); got != want || e != wantError {
		t.Errorf("P5.4: Add(%d, %d) with %d holidays: %d, %d, want %d, %d", day, n, len(holidays), got, e, want, wantError)
	}
}

func checkCount(t *testing.T, from, to int, holidays []int, want int, wantError api.Errno) {
	t.Helper()
	if got, e := calendar.Count(from, to, holidays); got != want || e != wantError {
		t.Errorf("P5.5: Count(%d, %d) with %d holidays: %d, %d, want %d, %d", from, to, len(holidays), got, e, want, wantError)
	}
}

func TestWeekday(t *testing.T) {
	for _, x := range [][2]int{
		{0, 0}, {1, 1}, {2, 2}, {3, 3}, {4, 4}, {5, 5}, {6, 6}, {7, 0}, {13, 6}, {14, 0},
		{-1, 6}, {-2, 5}, {-3, 4}, {-4, 3}, {-5, 2}, {-6, 1}, {-7, 0}, {-8, 6},
		{api.MaxDays, 4}, {api.MaxDays + 1, 5}, {math.MaxInt, 0}, {math.MinInt, 6},
	} {
		if got := calendar.Weekday(x[0]); got != x[1] {
			t.Errorf("P5.1: Weekday(%d): %d, want %d", x[0], got, x[1])
		}
	}
}

// Every day is followed by the next day of the week, and the week has 7 days.
func TestWeekdaysFollowEachOther(t *testing.T) {
	for _, first := range []int{-100, api.MaxDays - 50, -1 << 40, 1 << 40, math.MinInt, math.MaxInt - 100} {
		for day := first; day < first+93; day++ {
			today, tomorrow := calendar.Weekday(day), calendar.Weekday(day+1)
			if today < 0 || today > 6 || tomorrow != (today+1)%7 || calendar.Weekday(day+7) != today {
				t.Errorf("P5.1: Weekday(%d): %d, then %d", day, today, tomorrow)
			}
		}
	}
}

func TestIsBusiness(t *testing.T) {
	for _, x := range []struct {
		day      int
		holidays []int
		want     bool
	}{
		{0, nil, true}, {4, nil, true}, {5, nil, false}, {6, nil, false}, {7, nil, true}, {7, []int{}, true},
		{7, []int{7}, false}, {7, []int{8, 9, 7}, false}, {8, []int{7, 9, 7}, true}, {5, []int{7}, false}, {6, []int{6}, false},
		{-1, nil, false}, {-7, nil, false}, {-7, []int{-7}, false}, {math.MinInt, nil, false}, {math.MinInt + 1, nil, false},
		{api.MaxDays, nil, true}, {api.MaxDays, []int{api.MaxDays}, false}, {api.MaxDays + 1, nil, false},
		{api.MaxDays + 3, nil, false}, {math.MaxInt, nil, false}, {math.MaxInt, []int{3}, false},
	} {
		if got := calendar.IsBusiness(x.day, x.holidays); got != x.want {
			t.Errorf("P5.2: IsBusiness(%d, %v): %v", x.day, x.holidays, got)
		}
	}
	for _, holidays := range lists() {
		for _, day := range around() {
			if got := calendar.IsBusiness(day, holidays); got != business(day, holidays) {
				t.Errorf("P5.2: IsBusiness(%d, %v): %v", day, holidays, got)
			}
		}
	}
}

// IsBusiness has no limit of the number of holidays.
func TestIsBusinessWithManyHolidays(t *testing.T) {
	holidays := append(make([]int, 5000), 8)
	for day, want := range []bool{false, true, true, true, true, false, false, true, false, true} {
		if got := calendar.IsBusiness(day, holidays); got != want {
			t.Errorf("P5.2: IsBusiness(%d) with many holidays: %v", day, got)
		}
	}
}

func TestNext(t *testing.T) {
	week := []int{3, 0, 2, 4, 1}
	for _, x := range []struct {
		day      int
		holidays []int
		want     int
		e        api.Errno
	}{
		{0, nil, 0, api.OK}, {4, nil, 4, api.OK}, {5, nil, 7, api.OK}, {6, nil, 7, api.OK}, {5, []int{7}, 8, api.OK},
		{0, week, 7, api.OK}, {0, append([]int{8, 7}, week...), 9, api.OK}, {4, []int{4, 7, 4, 5, 6, 7}, 8, api.OK}, {4, []int{5, 3}, 4, api.OK},
		{api.MaxDays, nil, api.MaxDays, api.OK}, {api.MaxDays - 6, nil, api.MaxDays - 4, api.OK}, {api.MaxDays - 5, nil, api.MaxDays - 4, api.OK},
		{api.MaxDays, []int{api.MaxDays}, 0, api.ErrRange}, {api.MaxDays - 1, []int{api.MaxDays, api.MaxDays - 1}, 0, api.ErrRange},
		{api.MaxDays - 1, []int{api.MaxDays - 1}, api.MaxDays, api.OK}, {api.MaxDays + 1, nil, 0, api.ErrRange}, {math.MaxInt, nil, 0, api.ErrRange},
		{-1, nil, 0, api.ErrRange}, {-7, nil, 0, api.ErrRange}, {math.MinInt, nil, 0, api.ErrRange},
	} {
		checkNext(t, x.day, x.holidays, x.want, x.e)
	}
	for _, holidays := range lists() {
		for _, day := range around() {
			want, e := next(day, holidays)
			checkNext(t, day, holidays, want, e)
		}
	}
}

func TestAdd(t *testing.T) {
	for _, x := range []struct {
		day, n   int
		holidays []int
		want     int
		e        api.Errno
	}{
		{3, 2, nil, 7, api.OK}, {3, 1, nil, 4, api.OK}, {4, 1, nil, 7, api.OK}, {5, 1, nil, 7, api.OK}, {6, 1, nil, 7, api.OK},
		{5, 0, nil, 7, api.OK}, {5, 0, []int{7}, 8, api.OK}, {0, 0, nil, 0, api.OK}, {0, 5, nil, 7, api.OK}, {0, 10, nil, 14, api.OK},
		{0, 1, []int{0}, 1, api.OK}, {0, 1, []int{1, 1, 1}, 2, api.OK}, {0, 4, []int{7}, 4, api.OK}, {0, 5, []int{8, 7}, 9, api.OK},
		{3, 1, []int{4, 9, 8, 7}, 10, api.OK}, {3, 2, []int{4, 9, 7}, 10, api.OK}, {5, 1, []int{5, 6}, 7, api.OK},
		{0, 748984, nil, api.MaxDays, api.OK}, {0, 748985, nil, 0, api.ErrRange}, {0, 748984, []int{21}, 0, api.ErrRange}, {0, 748983, []int{21}, api.MaxDays, api.OK},
		{api.MaxDays - 1, 1, nil, api.MaxDays, api.OK}, {api.MaxDays - 1, 2, nil, 0, api.ErrRange}, {api.MaxDays, 1, nil, 0, api.ErrRange},
		{api.MaxDays, 0, nil, api.MaxDays, api.OK}, {api.MaxDays - 1, 1, []int{api.MaxDays}, 0, api.ErrRange}, {api.MaxDays - 1, 1, []int{api.MaxDays + 1}, api.MaxDays, api.OK},
	} {
		checkAdd(t, x.day, x.n, x.holidays, x.want, x.e)
	}
	for _, holidays := range lists() {
		for _, day := range around() {
			for n := range 13 {
				want, e := add(day, n, holidays)
				checkAdd(t, day, n, holidays, want, e)
			}
		}
	}
}

func TestAddOfInvalidNumbers(t *testing.T) {
	extreme := []int{math.MinInt, math.MinInt + 1, -1 << 40, -api.MaxDays, -7, -1, api.MaxDays + 1, api.MaxDays + 7, 1 << 40, math.MaxInt - 1, math.MaxInt}
	for _, holidays := range [][]int{nil, {0, 1, 2}, extreme} {
		for _, x := range extreme {
			checkAdd(t, 0, x, holidays, 0, api.ErrRange)
			checkAdd(t, 5, x, holidays, 0, api.ErrRange)
			checkAdd(t, api.MaxDays, x, holidays, 0, api.ErrRange)
			for _, y := range append(extreme, 0, 1, 5, api.MaxDays) {
				checkAdd(t, x, y, holidays, 0, api.ErrRange)
			}
		}
	}
	checkAdd(t, 0, api.MaxDays, nil, 0, api.ErrRange)
	checkAdd(t, api.MaxDays, api.MaxDays, nil, 0, api.ErrRange)
}

func TestCount(t *testing.T) {
	for _, x := range []struct {
		from, to int
		holidays []int
		want     int
		e        api.Errno
	}{
		{0, 7, nil, 5, api.OK}, {0, 1, nil, 1, api.OK}, {0, 5, nil, 5, api.OK}, {4, 7, nil, 1, api.OK}, {4, 8, nil, 2, api.OK}, {5, 7, nil, 0, api.OK},
		{0, 0, nil, 0, api.OK}, {7, 7, nil, 0, api.OK}, {7, 0, nil, 0, api.OK}, {7, 0, []int{1, 2, 3}, 0, api.OK}, {api.MaxDays, 0, nil, 0, api.OK},
		{7, 8, []int{7}, 0, api.OK}, {7, 9, []int{7, 7}, 1, api.OK}, {0, 14, []int{14, 9, 7, 7, 5, -1, 1 << 40}, 8, api.OK}, {8, 14, []int{7, 14}, 4, api.OK},
		{0, api.MaxDays, nil, 748984, api.OK}, {0, api.MaxDays, []int{api.MaxDays, 21, 21}, 748983, api.OK}, {api.MaxDays, api.MaxDays, nil, 0, api.OK}, {api.MaxDays - 1, api.MaxDays, nil, 1, api.OK},
		{-1, 5, nil, 0, api.ErrRange}, {5, -1, nil, 0, api.ErrRange}, {-3, -1, nil, 0, api.ErrRange}, {-1, -3, nil, 0, api.ErrRange},
		{0, api.MaxDays + 1, nil, 0, api.ErrRange}, {api.MaxDays + 1, 0, nil, 0, api.ErrRange}, {api.MaxDays + 1, api.MaxDays + 1, nil, 0, api.ErrRange},
		{math.MinInt, math.MaxInt, nil, 0, api.ErrRange}, {math.MaxInt, math.MinInt, nil, 0, api.ErrRange}, {math.MinInt, 5, nil, 0, api.ErrRange}, {5, math.MaxInt, nil, 0, api.ErrRange},
	} {
		checkCount(t, x.from, x.to, x.holidays, x.want, x.e)
	}
	for _, holidays := range lists() {
		for _, days := range [][]int{span(-9, 45), span(api.MaxDays-45, api.MaxDays+9)} {
			for _, from := range days {
				for _, to := range days {
					want, e := count(from, to, holidays)
					checkCount(t, from, to, holidays, want, e)
				}
			}
		}
	}
}

// Every element of the list counts for the limit, and the list is looked at
// before the days.
func TestTooManyHolidays(t *testing.T) {
	most := slices.Repeat([]int{1, -5}, 500)
	checkNext(t, 1, most, 2, api.OK)
	checkAdd(t, 0, 1, most, 2, api.OK)
	checkCount(t, 0, 7, most, 4, api.OK)
	checkNext(t, -1, most, 0, api.ErrRange)
	checkAdd(t, 0, -1, most, 0, api.ErrRange)
	checkCount(t, 0, -1, most, 0, api.ErrRange)
	for _, long := range [][]int{append(most, 1), append(most, -1), slices.Repeat(most, 20)} {
		for _, day := range []int{math.MinInt, -1, 0, 5, api.MaxDays, api.MaxDays + 1, math.MaxInt} {
			checkNext(t, day, long, 0, api.ErrLong)
			for _, x := range []int{math.MinInt, -1, 0, 1, api.MaxDays, math.MaxInt} {
				checkAdd(t, day, x, long, 0, api.ErrLong)
				checkCount(t, day, x, long, 0, api.ErrLong)
			}
		}
	}
}

// A row of holidays without a gap delays a deadline to the day after it.
func TestLongRowOfHolidays(t *testing.T) {
	first := span(0, 999)
	last := span(api.MaxDays-999, api.MaxDays)
	slices.Reverse(first)
	checkNext(t, 0, first, 1001, api.OK) // day 1000 is a Sunday
	checkAdd(t, 0, 1, first, 1001, api.OK)
	checkAdd(t, 0, 7, first, 1009, api.OK)
	checkCount(t, 0, 1002, first, 1, api.OK)
	checkNext(t, api.MaxDays-999, last, 0, api.ErrRange)
	checkAdd(t, api.MaxDays-1002, 1, last, api.MaxDays-1001, api.OK) // a Friday
	checkAdd(t, api.MaxDays-1001, 1, last, 0, api.ErrRange)
	checkCount(t, api.MaxDays-1002, api.MaxDays, last, 2, api.OK)
}

func TestCountOfAdd(t *testing.T) {
	for _, holidays := range lists() {
		for day := range 40 {
			for _, n := range []int{1, 2, 3, 4, 5, 6, 7, 29, 30, 1000, 700001} {
				end, e := calendar.Add(day, n, holidays)
				if e != api.OK || !calendar.IsBusiness(end, holidays) {
					t.Errorf("P5.4: Add(%d, %d) with %v: %d, %d", day, n, holidays, end, e)
				}
				if got, e := calendar.Count(day+1, end+1, holidays); got != n || e != api.OK {
					t.Errorf("P5.6: Count from %d to %d with %v: %d, %d, want %d", day+1, end+1, holidays, got, e, n)
				}
			}
		}
	}
}

func TestArgumentsAreNotModified(t *testing.T) {
	holidays := []int{14, 7, -2, 7, 5, 9, 1 << 40, 0}
	before := slices.Clone(holidays)
	calendar.IsBusiness(7, holidays)
	calendar.Next(0, holidays)
	calendar.Add(0, 9, holidays)
	calendar.Count(0, 20, holidays)
	if !slices.Equal(holidays, before) {
		t.Errorf("the holidays are modified: %v", holidays)
	}
}
