// Package calendar turns minutes into dates and dates into minutes (P3).
package calendar

import "bellman/api"

const (
	firstYear     = 1970
	lastYear      = 9999
	firstWeekday  = 4 // January 1st 1970 was a Thursday
	daysOfWeek    = 7
	hoursOfDay    = 24
	minutesOfHour = 60
	minutesOfDay  = hoursOfDay * minutesOfHour
	february      = 2
	lastMonth     = 12
)

// monthLengths are those of a year that is no leap year.
var monthLengths = [lastMonth]int{31, 28, 31, 30, 31, 30, 31, 31, 30, 31, 30, 31}

// Date tells a minute by the calendar.
func Date(m int) (api.Date, api.Errno) {
	if m < 0 || m > api.MaxMinute {
		return api.Date{}, api.ErrNumber
	}
	day := m / minutesOfDay
	year := yearOf(day)
	dayOfYear := day - daysBeforeYear(year)
	month := monthOf(year, dayOfYear)
	dayOfMonth := dayOfYear - daysBeforeMonth(year, month)
	minuteOfDay := m % minutesOfDay
	date := api.Date{
		Year:    year,
		Month:   month,
		Day:     dayOfMonth + 1,
		Hour:    minuteOfDay / minutesOfHour,
		Minute:  minuteOfDay % minutesOfHour,
		Weekday: (day + firstWeekday) % daysOfWeek,
	}
	return date, api.OK
}

// Minute tells the number of a date, whatever its weekday.
func Minute(d api.Date) (int, api.Errno) {
	if !isDate(d) {
		return 0, api.ErrNumber
	}
	day := daysBeforeYear(d.Year)
	day += daysBeforeMonth(d.Year, d.Month)
	day += d.Day - 1
	return day*minutesOfDay + d.Hour*minutesOfHour + d.Minute, api.OK
}

func isDate(d api.Date) bool {
	if d.Year < firstYear || d.Year > lastYear {
		return false
	}
	if d.Month < 1 || d.Month > lastMonth {
		return false
	}
	if d.Day < 1 || d.Day > daysOfMonth(d.Year, d.Month) {
		return false
	}
	if d.Hour < 0 || d.Hour >= hoursOfDay {
		return false
	}
	return d.Minute >= 0 && d.Minute < minutesOfHour
}

// yearOf begins at a year that is never too late, as no year is longer than
// 366 days, so that only a few steps are left, even for the last day.
func yearOf(day int) int {
	year := firstYear + day/366
	for year < lastYear && daysBeforeYear(year+1) <= day {
		year++
	}
	return year
}

func monthOf(year int, dayOfYear int) int {
	month := 1
	for month < lastMonth && daysBeforeMonth(year, month+1) <= dayOfYear {
		month++
	}
	return month
}

// daysBeforeYear counts from the first day of the first year.
func daysBeforeYear(year int) int {
	leapDays := leapYearsBefore(year)
	leapDays -= leapYearsBefore(firstYear)
	return 365*(year-firstYear) + leapDays
}

// leapYearsBefore counts from the year 1.
func leapYearsBefore(year int) int {
	past := year - 1
	return past/4 - past/100 + past/400
}

// daysBeforeMonth counts from the first day of the year.
func daysBeforeMonth(year int, month int) int {
	days := 0
	for before := 1; before < month && before <= lastMonth; before++ {
		days += daysOfMonth(year, before)
	}
	return days
}

// daysOfMonth is 0 for what is no month.
func daysOfMonth(year int, month int) int {
	if month < 1 || month > lastMonth {
		return 0
	}
	if month == february && isLeapYear(year) {
		return 29
	}
	return monthLengths[month-1]
}

func isLeapYear(year int) bool {
	if year%400 == 0 {
		return true
	}
	return year%4 == 0 && year%100 != 0
}
