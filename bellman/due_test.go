package bellman_test

import (
	"fmt"
	"math"
	"math/rand"
	"strings"
	"testing"
	"time"

	"bellman/api"
	"bellman/bellman"
)

func wantDue(t *testing.T, fields string, m int, want bool) {
	t.Helper()
	line := fields + " oa1 >a\n"
	if due, e := bellman.Due(line, 1, m); due != want || e != api.OK {
		t.Errorf("P4: %q at %v: %v, %d, want %v", fields, libraryDate(m), due, e, want)
	}
}

func wantNoAnswer(t *testing.T, tab string, line int, m int, errno api.Errno) {
	t.Helper()
	if due, e := bellman.Due(tab, line, m); due || e != errno {
		t.Errorf("P1, P4: Due(%.40q, %d, %d) = %v, %d, want false, %d", tab, line, m, due, e, errno)
	}
}

// minuteOf asks Go's own library.
func minuteOf(year, month, day, hour, minute int) int {
	return int(time.Date(year, time.Month(month), day, hour, minute, 0, 0, time.UTC).Unix() / 60)
}

func TestExample3(t *testing.T) {
	first := minuteOf(2024, 9, 13, 0, 0)
	for m := first; m < first+3*dayLength; m++ {
		minute := m % 60
		wantDue(t, "0-59/20 * * * *", m, minute == 0 || minute == 20 || minute == 40)
		wantDue(t, "*/25 * * * *", m, minute == 0 || minute == 25 || minute == 50)
	}
	for m := minuteOf(2023, 1, 1, 0, 0); m < minuteOf(2025, 1, 1, 0, 0); m += dayLength / 2 {
		d := libraryDate(m)
		midnight, friday := d.Hour == 0, d.Weekday == 5
		wantDue(t, "0 0 13 * 5", m, midnight && (d.Day == 13 || friday))
		wantDue(t, "0 0 13 * *", m, midnight && d.Day == 13)
		wantDue(t, "0 0 */2 * 5", m, midnight && friday && d.Day%2 == 1)
	}
}

func TestFirstAndLastMinute(t *testing.T) {
	for _, fields := range []string{"* * * * *", "0 0 1 1 4", "0 0 1 1 *", "0 0 * 1 4", "0 0 2 1 4", "0 0 1 1 5"} {
		wantDue(t, fields, 0, true)
		wantDue(t, fields, 1, fields == "* * * * *")
	}
	for _, fields := range []string{"* * * * *", "59 23 31 12 5", "59 23 31 12 *", "59 23 * 12 5", "59 23 30 12 5"} {
		wantDue(t, fields, api.MaxMinute, true)
		wantDue(t, fields, api.MaxMinute-1, fields == "* * * * *")
	}
	wantDue(t, "0 0 2 1 5", 0, false)
	wantDue(t, "59 23 30 12 4", api.MaxMinute, false)
}

func TestOpenAndOtherDays(t *testing.T) {
	friday13 := minuteOf(2024, 9, 13, 0, 0)
	friday20 := friday13 + 7*dayLength
	saturday14 := friday13 + dayLength
	for _, c := range []struct {
		day, weekday     string
		on13, on20, on14 bool
	}{
		{"*", "*", true, true, true},
		{"13", "*", true, false, false},
		{"*", "5", true, true, false},
		{"13", "5", true, true, false},
		{"14", "5", true, true, true},
		{"13", "6", true, false, true},
		{"15", "1", false, false, false},
		{"*/2", "5", true, false, false},
		{"*/2", "*", true, false, false},
		{"*/2", "*/5", true, false, false},
		{"13", "*/5", true, false, false},
		{"14", "*/5", false, false, false},
		{"14", "*/6", false, false, true},
		{"*,1", "5", true, true, false},
		{"1,*", "6", true, true, true},
		{"13", "1,*", true, true, true},
		{"13", "*,1", true, false, false},
		{"1-31", "6", true, true, true},
		{"1-31/2", "6", true, false, true},
		{"20", "0-6", true, true, true},
		{"*", "0-4", false, false, false},
	} {
		fields := "0 0 " + c.day + " * " + c.weekday
		wantDue(t, fields, friday13, c.on13)
		wantDue(t, fields, friday20, c.on20)
		wantDue(t, fields, saturday14, c.on14)
	}
}

func TestLeapDaysDue(t *testing.T) {
	for _, year := range []int{1972, 2000, 2024, 2400, 9996} {
		leapDay := minuteOf(year, 2, 29, 6, 7)
		wantDue(t, "7 6 29 2 *", leapDay, true)
		wantDue(t, "7 6 1 3 *", leapDay, false)
		wantDue(t, "7 6 1 3 *", leapDay+dayLength, true)
	}
	for _, year := range []int{1970, 2023, 2100, 9999} {
		next := minuteOf(year, 2, 28, 6, 7) + dayLength
		wantDue(t, "7 6 29 2 *", next, false)
		wantDue(t, "7 6 1 3 *", next, true)
	}
}

func TestDueAsksForItsLine(t *testing.T) {
	tab := "1 * * * * xa1 >a\n2 * * * * ol2 <b >c\n3 * * * * xn5 >d\n4 * * * * oa1 >e\n"
	for line := 1; line <= 4; line++ {
		for m := 0; m < 60; m++ {
			if due, e := bellman.Due(tab, line, m); due != (m == line) || e != api.OK {
				t.Errorf("P4: line %d at %d: %v, %d", line, m, due, e)
			}
		}
	}
}

func TestDueErrors(t *testing.T) {
	long := strings.Repeat("\n", 301)
	many := strings.Repeat("\n", 5)
	for _, c := range []struct {
		tab   string
		errno api.Errno
	}{{long, api.ErrLong}, {strings.Repeat(rightLine, 17), api.ErrLong}, {many, api.ErrMany}, {strings.Repeat(rightLine, 5), api.ErrMany}, {"x", api.ErrLine}, {"\n", api.ErrLine}, {rightLine[:17], api.ErrLine}, {rightLine + "x\n", api.ErrLine}} {
		wantNoAnswer(t, c.tab, 1, 0, c.errno)
		wantNoAnswer(t, c.tab, 0, 0, c.errno)
		wantNoAnswer(t, c.tab, 1, -1, c.errno)
		wantNoAnswer(t, c.tab, math.MaxInt, math.MinInt, c.errno)
	}
	for count := 0; count <= 4; count++ {
		tab := strings.Repeat(rightLine, count)
		for _, line := range []int{math.MinInt, -1, 0, count + 1, count + 2, 5, 1 << 40, math.MaxInt} {
			wantNoAnswer(t, tab, line, 0, api.ErrNumber)
			wantNoAnswer(t, tab, line, -1, api.ErrNumber)
		}
	}
	for _, m := range []int{math.MinInt, -dayLength, -1, api.MaxMinute + 1, 1 << 40, math.MaxInt} {
		wantNoAnswer(t, rightLine, 1, m, api.ErrNumber)
	}
}

// modelField tells of every value whether a field holds it, by going through
// its parts from their first value up.
func modelField(text string, bound [2]int) [60]bool {
	holds := [60]bool{}
	for _, part := range strings.Split(text, ",") {
		a, b, every := modelPart(part, bound)
		for v := a; v <= b; v += every {
			holds[v] = true
		}
	}
	return holds
}

func modelDue(fields [5]string, d api.Date) bool {
	values := [5]int{d.Minute, d.Hour, d.Day, d.Month, d.Weekday}
	held := [5]bool{}
	for i, text := range fields {
		held[i] = modelField(text, bounds[i])[values[i]]
	}
	days := held[2] || held[4]
	if strings.HasPrefix(fields[2], "*") || strings.HasPrefix(fields[4], "*") {
		days = held[2] && held[4]
	}
	return held[0] && held[1] && held[3] && days
}

func randomPart(random *rand.Rand, bound [2]int) string {
	a := bound[0] + random.Intn(bound[1]-bound[0]+1)
	b := a + random.Intn(bound[1]-a+1)
	every := 1 + random.Intn(12)
	switch random.Intn(6) {
	case 0:
		return fmt.Sprint(a)
	case 1:
		return fmt.Sprintf("%02d-%d", a, b)
	case 2:
		return fmt.Sprintf("%d-%d/%d", a, b, every)
	case 3:
		return fmt.Sprintf("*/%02d", every)
	}
	return "*"
}

func randomField(random *rand.Rand, bound [2]int) string {
	parts := []string{}
	for i := random.Intn(3); i >= 0; i-- {
		parts = append(parts, randomPart(random, bound))
	}
	return strings.Join(parts, ",")
}

func TestRandomLinesDue(t *testing.T) {
	random := rand.New(rand.NewSource(2))
	due := 0
	for round := 0; round < 20000; round++ {
		fields := [5]string{}
		for i := range fields {
			fields[i] = randomField(random, bounds[i])
		}
		for sample := 0; sample < 10; sample++ {
			m := random.Intn(api.MaxMinute + 1)
			want := modelDue(fields, libraryDate(m))
			wantDue(t, strings.Join(fields[:], " "), m, want)
			if want {
				due++
			}
		}
		if t.Failed() {
			return
		}
	}
	if due < 10000 {
		t.Errorf("only %d answers were yes: the test says too little", due)
	}
}
