// Package bellman: jobs that come due by the calendar, talk to somebody, and are not forgotten when the power fails: see DOC.md.
package bellman

import (
	"bellman/api"
	"bellman/calendar"
	"bellman/crontab"
	"bellman/frame"
)

// Date tells a minute by the calendar (P3).
func Date(m int) (api.Date, api.Errno) { return calendar.Date(m) }

// Minute tells the number of a date (P3).
func Minute(d api.Date) (int, api.Errno) { return calendar.Minute(d) }

// Check tells whether a text is a crontab (P4).
func Check(tab string) (int, api.Errno) { return crontab.Check(tab) }

// Due tells whether a line is due at a minute (P4).
func Due(tab string, line int, m int) (bool, api.Errno) { return crontab.Due(tab, line, m) }

// Sum tells the check of a text (P5).
func Sum(text string) int { return frame.Sum(text) }
