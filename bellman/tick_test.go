package bellman_test

import (
	"math"
	"strings"
	"testing"

	"bellman/api"
)

const (
	eachMinute = "* * * * * oa1 >a"
	lastMinute = api.MaxMinute
)

// wantSlots: the number, line and minute of each slot, all waiting.
func wantSlots(t *testing.T, p pair, slots ...[3]int) {
	t.Helper()
	if n := p.box.Look().Slots; n != len(slots) {
		t.Fatalf("P6: %d slots, want %d", n, len(slots))
	}
	for i, s := range slots {
		want := api.Slot{Number: s[0], Line: s[1], Minute: s[2], Attempt: 1, From: s[2], Step: 0}
		if got, e := p.box.Slot(i); got != want || e != api.OK {
			t.Fatalf("P6: Slot(%d) = %+v, %d, want %+v", i, got, e, want)
		}
	}
}

// wantSkipped: the numbers of the ends, all skipped.
func wantSkipped(t *testing.T, p pair, numbers ...int) {
	t.Helper()
	if n := p.box.Look().Ends; n != len(numbers) {
		t.Fatalf("P6: %d ends, want %d", n, len(numbers))
	}
	for i, number := range numbers {
		if got, e := p.box.End(i); got != (api.End{Number: number, How: "s"}) || e != api.OK {
			t.Fatalf("P6: End(%d) = %+v, %d, want number %d, skipped", i, got, e, number)
		}
	}
}

func TestExample5(t *testing.T) {
	p := begin(t, 1, 600, "*/5 * * * * xa2 >hi <ok >by")
	p.wantTick(t, 1000, 1, api.OK)
	wantSlots(t, p, [3]int{1, 1, 1000})
	if next := p.box.Look().Next; next != 2 {
		t.Errorf("P6: next %d, want 2", next)
	}
	p.wantTick(t, 1000, 0, api.ErrClock)
	p.wantTick(t, 1012, 2, api.OK)
	wantSlots(t, p, [3]int{1, 1, 1000}, [3]int{2, 1, 1005}, [3]int{3, 1, 1010})
}

func TestExample7(t *testing.T) {
	p := begin(t, 1, 600, "*/5 * * * * xl2 >hi <ok >by")
	p.wantTick(t, 1000, 1, api.OK)
	p.wantTick(t, 1012, 1, api.OK)
	wantSlots(t, p, [3]int{1, 1, 1000}, [3]int{2, 1, 1010})
	p = begin(t, 1, 600, "*/5 * * * * xn2 >hi <ok >by")
	p.wantTick(t, 1000, 1, api.OK)
	p.wantTick(t, 1012, 0, api.OK)
	wantSlots(t, p, [3]int{1, 1, 1000})
}

func TestFirstTick(t *testing.T) {
	for _, options := range []string{"oa1", "ol1", "on1", "xa5", "xl3", "xn2"} {
		for _, m := range []int{0, 1, 59, 60, 1499, 1500, 1501, 15863790, lastMinute - 1, lastMinute} {
			p := begin(t, 1, 600, "* * * * * "+options+" >a")
			p.wantTick(t, m, 1, api.OK)
			wantSlots(t, p, [3]int{1, 1, m})
		}
		p := begin(t, 1, 600, "0 * * * * "+options+" >a")
		p.wantTick(t, 61, 0, api.OK)
		wantSlots(t, p)
	}
	p := newPair(t, 1, 600)
	p.wantTick(t, 0, 0, api.OK)
}

func TestLogOfTicks(t *testing.T) {
	p := begin(t, 1, 600)
	p.wantTick(t, 258, 0, api.OK)
	if log := p.box.Log(); log[7:15] != "\x00\x06C\x00\x00\x00\x01\x02" {
		t.Errorf("P7: the log is %x", log)
	}
	p = begin(t, 1, 600)
	p.wantTick(t, lastMinute, 0, api.OK)
	if log := p.box.Log(); log[7:15] != "\x00\x06C\x00\xfb\xbb\x89\x9f" || len(log) != 19 {
		t.Errorf("P7: the log is %x", log)
	}
}

func TestHowFarATickGoes(t *testing.T) {
	for _, clock := range []int{0, 1, 1000, 15863790, lastMinute - 1500, lastMinute - 1501} {
		for _, jump := range []int{1, 2, 1499, 1500} {
			p := begin(t, 1, 600, eachMinute)
			p.wantTick(t, clock, 1, api.OK)
			p.wantTick(t, clock+jump, jump, api.OK)
		}
		p := begin(t, 1, 600, eachMinute)
		p.wantTick(t, clock, 1, api.OK)
		for _, m := range []int{clock, clock - 1, clock - 1500, clock + 1501, clock + 1502, 0, lastMinute} {
			errno := api.ErrClock
			if m < 0 || m > lastMinute {
				errno = api.ErrNumber
			}
			if m <= clock || m > clock+1500 {
				p.wantTick(t, m, 0, errno)
			}
		}
	}
}

func TestNoMinuteToTick(t *testing.T) {
	p := begin(t, 1, 600, eachMinute)
	for i := 0; i < 2; i++ {
		for _, m := range []int{math.MinInt, math.MinInt + 1, math.MinInt32, -1500, -2, -1, lastMinute + 1, lastMinute + 1500, 1 << 40, math.MaxInt - 1, math.MaxInt} {
			p.wantTick(t, m, 0, api.ErrNumber)
		}
		p.tick(t, lastMinute-i)
	}
	p.wantTick(t, lastMinute, 0, api.ErrClock)
	p.wantTick(t, lastMinute-1, 0, api.ErrClock)
	p.wantTick(t, 0, 0, api.ErrClock)
	wantSlots(t, p, [3]int{1, 1, lastMinute})
}

func TestUpToTheLastMinute(t *testing.T) {
	p := begin(t, 1, 600, "59 23 31 12 * ol1 >a", "* * * * * on1 >b", "30-59/29 23 * * 5 oa1 >c")
	p.wantTick(t, lastMinute-1500, 1, api.OK)
	p.wantTick(t, lastMinute, 4, api.OK)
	wantSlots(t, p, [3]int{1, 2, lastMinute - 1500}, [3]int{2, 3, lastMinute - 29}, [3]int{3, 1, lastMinute}, [3]int{4, 2, lastMinute}, [3]int{5, 3, lastMinute})
}

func TestSevenEightNine(t *testing.T) {
	p := begin(t, 1, 600, eachMinute)
	slots, skipped := [][3]int{}, []int{}
	for m := 100; m < 120; m++ {
		p.wantTick(t, m, 1, api.OK)
		number := m - 99
		if number <= 8 {
			slots = append(slots, [3]int{number, 1, m})
		} else {
			skipped = append(skipped, number)
		}
		if len(skipped) > 6 {
			skipped = skipped[1:]
		}
		wantSlots(t, p, slots...)
		wantSkipped(t, p, skipped...)
	}
	p = begin(t, 1, 600, eachMinute)
	p.wantTick(t, 100, 1, api.OK)
	p.wantTick(t, 119, 19, api.OK)
	wantSlots(t, p, slots...)
	wantSkipped(t, p, skipped...)
}

func TestNinthAmongTheLinesOfAMinute(t *testing.T) {
	p := begin(t, 1, 600, eachMinute, eachMinute, eachMinute)
	p.wantTick(t, 7, 3, api.OK)
	p.wantTick(t, 8, 3, api.OK)
	p.wantTick(t, 9, 3, api.OK)
	wantSlots(t, p, [3]int{1, 1, 7}, [3]int{2, 2, 7}, [3]int{3, 3, 7}, [3]int{4, 1, 8}, [3]int{5, 2, 8}, [3]int{6, 3, 8}, [3]int{7, 1, 9}, [3]int{8, 2, 9})
	wantSkipped(t, p, 9)
}

func TestWhatCounts(t *testing.T) {
	p := begin(t, 1, 4000, "*/5 * * * * ol1 >a", "*/5 * * * * on1 >b", "*/4 * * * * oa1 >c", "*/6 * * * * xl2 >d")
	p.wantTick(t, 100, 3, api.OK)
	wantSlots(t, p, [3]int{1, 1, 100}, [3]int{2, 2, 100}, [3]int{3, 3, 100})
	p.wantTick(t, 112, 5, api.OK)
	wantSlots(t, p, [3]int{1, 1, 100}, [3]int{2, 2, 100}, [3]int{3, 3, 100}, [3]int{4, 3, 104}, [3]int{5, 3, 108}, [3]int{6, 4, 108}, [3]int{7, 1, 110}, [3]int{8, 3, 112})
}

func TestLinesOfOneMinute(t *testing.T) {
	for _, letters := range []string{"aaaa", "llll", "nnnn", "alna", "nlan", "lnal", "ann", "lan", "nal"} {
		lines := []string{}
		for i := range letters {
			lines = append(lines, "0 * * * * o"+letters[i:i+1]+"1 >a")
		}
		p := begin(t, 1, 600, lines...)
		p.wantTick(t, 59, 0, api.OK)
		p.wantTick(t, 60, len(letters), api.OK)
		wanted := [][3]int{}
		for i := range letters {
			wanted = append(wanted, [3]int{i + 1, i + 1, 60})
		}
		wantSlots(t, p, wanted...)
	}
}

func TestOneDueMinuteOfMany(t *testing.T) {
	leapDay := minuteOf(2000, 2, 29, 0, 0)
	for _, c := range []struct {
		options string
		early   int
		exact   int
	}{{"oa1", 1, 1}, {"ol1", 1, 1}, {"on1", 0, 1}} {
		p := begin(t, 1, 600, "0 0 29 2 * "+c.options+" >a")
		p.wantTick(t, leapDay-1, 0, api.OK)
		p.wantTick(t, leapDay+1499, c.early, api.OK)
		p = begin(t, 1, 600, "0 0 29 2 * "+c.options+" >a")
		p.wantTick(t, leapDay-1500, 0, api.OK)
		p.wantTick(t, leapDay, c.exact, api.OK)
		wantSlots(t, p, [3]int{1, 1, leapDay})
		p.wantTick(t, leapDay+1500, 0, api.OK)
		p = begin(t, 1, 600, "0 0 29 2 * "+c.options+" >a")
		p.wantTick(t, leapDay, 1, api.OK)
		p.wantTick(t, leapDay+1, 0, api.OK)
	}
}

func TestJustRoomForATick(t *testing.T) {
	for _, room := range []int{600, 601, 2345, 3999, 4000} {
		just := newPair(t, 2, room)
		fill(t, just, room-12)
		just.wantTick(t, 1, 1, api.OK)
		if len(just.box.Log()) != room {
			t.Fatalf("P7: the log has %d bytes, not %d", len(just.box.Log()), room)
		}
		just.wantTick(t, 2, 0, api.ErrRoom)
		just.wantTick(t, 1, 0, api.ErrClock)
		just.wantTick(t, 1502, 0, api.ErrClock)
		just.wantTick(t, -1, 0, api.ErrNumber)
		for lacking := 1; lacking <= 12; lacking += 11 {
			p := newPair(t, 2, room)
			fill(t, p, room-12+lacking)
			p.wantTick(t, 1, 0, api.ErrRoom)
			p.wantTick(t, lastMinute, 0, api.ErrRoom)
			wantSlots(t, p)
		}
	}
}

// ofThreeDays: lines that are due in each minute of three days, and one on the
// day behind the next.
func ofThreeDays(options string) []string {
	days := "* * 1-3 1 * oa1 >a"
	return []string{days, days, "0 0 5 1 * " + options + " >a", days}
}

func TestTheLastNumbers(t *testing.T) {
	for _, c := range []struct {
		options string
		later   api.Errno
	}{{"oa1", api.ErrIds}, {"ol1", api.ErrIds}, {"on1", api.OK}} {
		p := begin(t, 1, 600, ofThreeDays(c.options)...)
		p.wantTick(t, 4320-3333, 3, api.OK)
		p.wantTick(t, 4320-1833, 4500, api.OK)
		p.wantTick(t, 4320-333, 4500, api.OK)
		p.wantTick(t, 4319, 996, api.OK)
		wantSkipped(t, p, 9994, 9995, 9996, 9997, 9998, 9999)
		if next := p.box.Look().Next; next != 10000 {
			t.Fatalf("P8: next %d, want 10000", next)
		}
		p.wantTick(t, 4320, 0, api.OK)
		p.wantTick(t, 4*1440, 0, api.ErrIds)
		p.wantTick(t, 4320+1501, 0, api.ErrClock)
		p.wantTick(t, 4320, 0, api.ErrClock)
		p.wantTick(t, 4*1440-1, 0, api.OK)
		p.wantTick(t, 4*1440, 0, api.ErrIds)
		p.wantTick(t, 4*1440+1, 0, c.later)
	}
}

func TestANumberTooMany(t *testing.T) {
	p := begin(t, 1, 600, ofThreeDays("oa1")...)
	p.wantTick(t, 4320-3334, 3, api.OK)
	p.wantTick(t, 4320-1834, 4500, api.OK)
	p.wantTick(t, 4320-334, 4500, api.OK)
	p.wantTick(t, 4319, 0, api.ErrIds)
	p.wantTick(t, 4318, 996, api.OK)
	p.wantTick(t, 4319, 0, api.ErrIds)
	p = begin(t, 1, 600, eachMinute, eachMinute, eachMinute, eachMinute)
	p.wantTick(t, 0, 4, api.OK)
	p.wantTick(t, 1500, 6000, api.OK)
	p.wantTick(t, 3000, 0, api.ErrIds)
	p.wantTick(t, 2499, 0, api.ErrIds)
	p.wantTick(t, 2498, 3992, api.OK)
	p.wantTick(t, 2499, 0, api.ErrIds)
	if next := p.box.Look().Next; next != 9997 {
		t.Fatalf("P8: next %d, want 9997", next)
	}
}

func TestNumbersComeBeforeRoom(t *testing.T) {
	p := newPair(t, 1, 600)
	tab := strings.Repeat(eachMinute+"\n", 4)
	fill(t, p, 600-3*12-len(tab)-7)
	p.wantLoad(t, tab, api.OK)
	p.wantTick(t, 0, 4, api.OK)
	p.wantTick(t, 1500, 6000, api.OK)
	p.wantTick(t, 2498, 3992, api.OK)
	p.wantTick(t, 2499, 0, api.ErrIds)
	p.wantTick(t, 3999, 0, api.ErrClock)
}
