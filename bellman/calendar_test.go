package bellman_test

import (
	"math"
	"testing"
	"time"

	"bellman/api"
	"bellman/bellman"
)

const dayLength = 1440

// wantDate checks both ways: a minute to its date, and back.
func wantDate(t *testing.T, m int, want api.Date) {
	t.Helper()
	if d, e := bellman.Date(m); d != want || e != api.OK {
		t.Fatalf("P3: Date(%d) = %+v, %d, want %+v", m, d, e, want)
	}
	if n, e := bellman.Minute(want); n != m || e != api.OK {
		t.Fatalf("P3: Minute(%+v) = %d, %d, want %d", want, n, e, m)
	}
}

func wantNoMinute(t *testing.T, m int) {
	t.Helper()
	if d, e := bellman.Date(m); d != (api.Date{}) || e != api.ErrNumber {
		t.Errorf("P1, P3: Date(%d) = %+v, %d, want noughts and %d", m, d, e, api.ErrNumber)
	}
}

func wantNoDate(t *testing.T, d api.Date) {
	t.Helper()
	if m, e := bellman.Minute(d); m != 0 || e != api.ErrNumber {
		t.Errorf("P1, P3: Minute(%+v) = %d, %d, want 0, %d", d, m, e, api.ErrNumber)
	}
}

// libraryDate is the date that Go's own library tells.
func libraryDate(m int) api.Date {
	u := time.Unix(int64(m)*60, 0).UTC()
	return api.Date{Year: u.Year(), Month: int(u.Month()), Day: u.Day(), Hour: u.Hour(), Minute: u.Minute(), Weekday: int(u.Weekday())}
}

func TestExample1(t *testing.T) {
	wantDate(t, 0, api.Date{Year: 1970, Month: 1, Day: 1, Weekday: 4})
	wantDate(t, 4223371679, api.Date{Year: 9999, Month: 12, Day: 31, Hour: 23, Minute: 59, Weekday: 5})
	wantDate(t, 15863790, api.Date{Year: 2000, Month: 2, Day: 29, Hour: 12, Minute: 30, Weekday: 2})
	wantNoDate(t, api.Date{Year: 1900, Month: 1, Day: 1})
	wantNoDate(t, api.Date{Year: 2100, Month: 2, Day: 29})
	wantNoMinute(t, -1)
}

func TestEveryDay(t *testing.T) {
	days := (api.MaxMinute + 1) / dayLength
	for day := 0; day < days; day++ {
		m := day*dayLength + day%dayLength
		wantDate(t, m, libraryDate(m))
	}
}

func TestEveryMinuteOfSomeDays(t *testing.T) {
	leapDay := 15863790 / dayLength
	for _, day := range []int{0, leapDay, leapDay + 1, api.MaxMinute / dayLength} {
		for i := 0; i < dayLength; i++ {
			m := day*dayLength + i
			wantDate(t, m, libraryDate(m))
		}
	}
}

func TestNoMinutes(t *testing.T) {
	for _, m := range []int{-1, -2, -dayLength, -api.MaxMinute, math.MinInt32, math.MinInt, api.MaxMinute + 1, api.MaxMinute + dayLength, 1 << 40, math.MaxInt - 1, math.MaxInt} {
		wantNoMinute(t, m)
	}
}

func TestMonthLengths(t *testing.T) {
	for _, c := range []struct{ year, february int }{{1970, 28}, {1971, 28}, {1972, 29}, {1999, 28}, {2000, 29}, {2023, 28}, {2024, 29}, {2100, 28}, {2200, 28}, {2300, 28}, {2400, 29}, {9996, 29}, {9999, 28}} {
		lengths := []int{31, c.february, 31, 30, 31, 30, 31, 31, 30, 31, 30, 31}
		for i, length := range lengths {
			last := api.Date{Year: c.year, Month: i + 1, Day: length, Hour: 23, Minute: 59}
			if m, e := bellman.Minute(last); e != api.OK || m%dayLength != dayLength-1 {
				t.Errorf("P3: Minute(%+v) = %d, %d", last, m, e)
			}
			last.Day++
			wantNoDate(t, last)
			last.Day = 0
			wantNoDate(t, last)
		}
	}
}

func TestWeekdayIsNotLookedAt(t *testing.T) {
	for _, weekday := range []int{math.MinInt, -1, 0, 1, 6, 7, math.MaxInt} {
		d := api.Date{Year: 2000, Month: 2, Day: 29, Hour: 12, Minute: 30, Weekday: weekday}
		if m, e := bellman.Minute(d); m != 15863790 || e != api.OK {
			t.Errorf("P3: Minute(%+v) = %d, %d, want 15863790", d, m, e)
		}
	}
}

func TestNoDates(t *testing.T) {
	good := api.Date{Year: 2000, Month: 2, Day: 29, Hour: 12, Minute: 30}
	wantNoDate(t, api.Date{})
	for _, far := range []int{math.MinInt, math.MinInt + 1, math.MinInt32, -1, 10000, math.MaxInt32, 1 << 40, math.MaxInt - 1, math.MaxInt} {
		for i := 0; i < 5; i++ {
			d := good
			*[]*int{&d.Year, &d.Month, &d.Day, &d.Hour, &d.Minute}[i] = far
			wantNoDate(t, d)
		}
		wantNoDate(t, api.Date{Year: far, Month: far, Day: far, Hour: far, Minute: far, Weekday: far})
	}
	for _, year := range []int{0, 1, 70, 1900, 1968, 1969} {
		wantNoDate(t, api.Date{Year: year, Month: 1, Day: 1})
	}
	for _, month := range []int{0, 13} {
		wantNoDate(t, api.Date{Year: 2000, Month: month, Day: 1})
	}
	for _, hour := range []int{-1, 24, 60} {
		wantNoDate(t, api.Date{Year: 2000, Month: 1, Day: 1, Hour: hour})
	}
	for _, minute := range []int{-1, 60, 61} {
		wantNoDate(t, api.Date{Year: 2000, Month: 1, Day: 1, Minute: minute})
	}
}
