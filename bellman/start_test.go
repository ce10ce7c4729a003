package bellman_test

import (
	"math"
	"strings"
	"testing"

	"bellman/api"
)

const onNewYear = "0 0 1 1 * "

// wrongNumbers are no slot's, at whatever slots: the last ones look like 1
// and 2 in two bytes or four.
var wrongNumbers = []int{math.MinInt, math.MinInt + 1, math.MinInt32, -65535, -9999, -2, -1, 0, 9999, 10000, 10001, 65535, 65536, math.MaxInt32, math.MaxInt - 1, math.MaxInt, 1 << 16, 1<<16 + 1, 1<<16 + 2, 1<<32 + 1, 1<<32 + 2}

func TestExample6(t *testing.T) {
	p := begin(t, 1, 600, "*/5 * * * * xa2 >hi <ok >by")
	p.wantTick(t, 1000, 1, api.OK)
	p.wantTick(t, 1012, 2, api.OK)
	p.wantStart(t, 1, "hi", api.OK)
	p.wantSlot(t, api.Slot{Number: 1, Line: 1, Minute: 1000, Attempt: 1, From: 1000, Step: 2})
	p.wantStart(t, 2, "", api.ErrLock)
	p.wantFeed(t, 1, "no, o", "", api.OK)
	p.wantFeed(t, 1, "k!", "by", api.OK)
	p.wantEnds(t, "1d")
	p.wantStart(t, 2, "hi", api.OK)
	p.wantTick(t, 1014, 0, api.OK)
	p.wantTick(t, 1015, 1, api.OK)
	p.wantSlot(t, api.Slot{Number: 2, Line: 1, Minute: 1005, Attempt: 2, From: 1017, Step: 0})
	p.wantStart(t, 2, "", api.ErrEarly)
}

func TestStartTalksUpToAStepThatHears(t *testing.T) {
	for _, c := range []struct {
		steps string
		said  string
		step  int
	}{
		{"<a", "", 1},
		{"<a >b", "", 1},
		{">a <b", "a", 2},
		{">a >b <c", "ab", 3},
		{">hi <hi >hi", "hi", 2},
		{">12345678 >ABCDEFGH >abcdefgh >zzzzzzzz <a", "12345678ABCDEFGHabcdefghzzzzzzzz", 5},
		{">a >a >a <a >a", "aaa", 4},
		{"<a <b <c <d <e", "", 1},
	} {
		for _, options := range []string{"xa1", "oa1", "xa5", "oa5"} {
			p := begin(t, 1, 600, onNewYear+options+" "+c.steps)
			p.wantTick(t, 0, 1, api.OK)
			length := len(p.box.Log())
			p.wantStart(t, 1, c.said, api.OK)
			p.wantSlot(t, api.Slot{Number: 1, Line: 1, Attempt: 1, Step: c.step})
			p.wantFrames(t, length, "S\x00\x01")
			p.wantEnds(t, "")
			p.wantStart(t, 1, "", api.ErrState)
		}
	}
}

func TestWordsToSayAlone(t *testing.T) {
	for _, c := range []struct{ steps, said string }{{">a", "a"}, {">a >b", "ab"}, {">12345678 >1 >2 >3 >ABCDEFGH", "12345678123ABCDEFGH"}} {
		p := begin(t, 1, 600, onNewYear+"xa1 "+c.steps)
		p.wantTick(t, 0, 1, api.OK)
		length := len(p.box.Log())
		p.wantStart(t, 1, c.said, api.OK)
		p.wantEnds(t, "1d")
		p.wantFrames(t, length, "S\x00\x01", "D\x00\x01")
		p.wantStart(t, 1, "", api.ErrSlot)
		p.wantFeed(t, 1, "a", "", api.ErrSlot)
		p.wantLoad(t, "", api.OK)
	}
}

// The steps are those of the slot's own line.
func TestEachLineTalksForItself(t *testing.T) {
	p := begin(t, 4, 4000, onNewYear+"oa1 >a <b", onNewYear+"xa1 <c >d", onNewYear+"oa1 >e", onNewYear+"xa1 >f >g <h")
	p.wantTick(t, 0, 4, api.OK)
	p.wantStart(t, 4, "fg", api.OK)
	p.wantStart(t, 2, "", api.OK)
	p.wantStart(t, 1, "a", api.OK)
	p.wantStart(t, 3, "e", api.OK)
	p.wantFeed(t, 1, "hc", "", api.OK)
	p.wantFeed(t, 2, "c", "d", api.OK)
	p.wantFeed(t, 4, "cbh", "", api.OK)
	p.wantFeed(t, 1, "b", "", api.OK)
	p.wantEnds(t, "3d 2d 4d 1d")
}

func TestStartOfNoSlot(t *testing.T) {
	p := newPair(t, 1, 600)
	for i := 0; i < 3; i++ {
		for _, number := range wrongNumbers {
			p.wantStart(t, number, "", api.ErrSlot)
		}
		if i == 0 {
			p.wantStart(t, 1, "", api.ErrSlot)
			p.wantLoad(t, onNewYear+"oa1 >a\n"+onNewYear+"oa1 <b\n", api.OK)
			p.wantTick(t, 0, 2, api.OK)
		} else {
			p.start(t, i)
		}
		p.wantStart(t, 3, "", api.ErrSlot)
	}
}

// Numbers above 255 have two bytes that matter.
func TestStartOfGreatNumbers(t *testing.T) {
	p := begin(t, 1, 4000, "* * 1 * * oa1 >a", "* * 3 * * on2 <b")
	p.wantTick(t, 1439-400, 1, api.OK)
	p.wantTick(t, 1439, 400, api.OK)
	for number := 1; number <= 8; number++ {
		p.wantStart(t, number, "a", api.OK)
		p.wantStart(t, number+256, "", api.ErrSlot)
	}
	p.wantTick(t, 1440+1439, 0, api.OK)
	p.wantTick(t, 2880, 1, api.OK)
	length := len(p.box.Log())
	p.wantStart(t, 402, "", api.OK)
	p.wantTick(t, 2883, 1, api.OK)
	p.wantCancel(t, 403, api.OK)
	p.wantTick(t, 2887, 1, api.OK)
	p.wantStart(t, 402, "", api.OK)
	p.wantFeed(t, 402, "b", "", api.OK)
	clock := func(m int) string { return string([]byte{'C', 0, 0, 0, byte(m >> 8), byte(m)}) }
	p.wantFrames(t, length, "S\x01\x92", clock(2883), "F\x01\x92", "K\x01\x93", clock(2887), "S\x01\x92", "D\x01\x92")
}

func TestFromJustReached(t *testing.T) {
	p := begin(t, 4, 4000, onNewYear+"xa5 <a")
	p.wantTick(t, 0, 1, api.OK)
	from := 0
	for attempt, delay := range []int{2, 4, 8, 10} {
		p.wantStart(t, 1, "", api.OK)
		p.wantTick(t, from+3, 0, api.OK)
		p.wantStart(t, 1, "", api.ErrEarly)
		from += 3 + delay
		p.wantSlot(t, api.Slot{Number: 1, Line: 1, Attempt: attempt + 2, From: from})
		p.wantTick(t, from-1, 0, api.OK)
		p.wantStart(t, 1, "", api.ErrEarly)
		p.wantTick(t, from, 0, api.OK)
	}
	p.wantStart(t, 1, "", api.OK)
	p.wantTick(t, from+2, 0, api.OK)
	p.wantStep(t, 1, 1)
	p.wantTick(t, from+3, 0, api.OK)
	p.wantEnds(t, "1a")
}

func TestOneOfALineAtATime(t *testing.T) {
	p := begin(t, 4, 4000, "* * * * * xa1 <a", "* * * * * oa1 <a", "* * * * * xa1 <a")
	p.wantTick(t, 1, 3, api.OK)
	p.wantTick(t, 2, 3, api.OK)
	p.wantStart(t, 1, "", api.OK)
	p.wantStart(t, 4, "", api.ErrLock)
	p.wantStart(t, 2, "", api.OK)
	p.wantStart(t, 5, "", api.OK)
	p.wantStart(t, 6, "", api.OK)
	p.wantStart(t, 3, "", api.ErrLock)
	p.wantStart(t, 4, "", api.ErrLock)
	p.wantFeed(t, 6, "a", "", api.OK)
	p.wantStart(t, 4, "", api.ErrLock)
	p.wantFeed(t, 1, "a", "", api.OK)
	p.wantStart(t, 4, "", api.OK)
	p.wantStart(t, 3, "", api.OK)
}

// stop makes a slot that runs, with the word a to be heard, run no more; the
// clock goes on for that if it must.
func stop(t *testing.T, p pair, number int, how string) {
	t.Helper()
	switch how {
	case "done":
		p.wantFeed(t, number, "a", "", api.OK)
	case "called off":
		p.wantCancel(t, number, api.OK)
	case "failed":
		p.tick(t, p.model.clock+3)
	}
}

var waysToStop = []string{"done", "called off", "failed"}

// What ended a slot, or made it wait, makes way for another one of its line.
func TestWayForAnotherOfTheLine(t *testing.T) {
	for _, how := range waysToStop {
		for _, options := range []string{"xa1", "xa2"} {
			p := begin(t, 2, 4000, "1-2 0 1 1 * "+options+" <a")
			p.wantTick(t, 1, 1, api.OK)
			p.wantTick(t, 2, 1, api.OK)
			p.wantStart(t, 2, "", api.OK)
			p.wantStart(t, 1, "", api.ErrLock)
			stop(t, p, 2, how)
			p.wantStart(t, 1, "", api.OK)
			if how == "failed" && options == "xa2" {
				p.wantStart(t, 2, "", api.ErrEarly)
				p.wantTick(t, 7, 0, api.OK)
				p.wantStart(t, 2, "", api.ErrLock)
			}
		}
	}
}

func TestAsManyAsMayRun(t *testing.T) {
	for limit := 1; limit <= 4; limit++ {
		for _, how := range waysToStop {
			p := begin(t, limit, 4000, "0-6 0 1 1 * oa2 <a", "7 0 1 1 * oa1 >b")
			for m := 0; m < 8; m++ {
				p.wantTick(t, m, 1, api.OK)
			}
			for number := 1; number <= limit; number++ {
				p.wantStart(t, number, "", api.OK)
			}
			for number := limit + 1; number <= 7; number++ {
				p.wantStart(t, number, "", api.ErrLimit)
			}
			p.wantStart(t, 8, "", api.ErrLimit)
			p.wantStart(t, limit, "", api.ErrState)
			stop(t, p, limit, how)
			p.wantStart(t, 8, "b", api.OK)
			p.wantStart(t, 7, "", api.OK)
		}
	}
}

// Words to say alone take no place: the slot does not run any more.
func TestDoneAtOnceLeavesItsPlace(t *testing.T) {
	p := begin(t, 2, 4000, "0-6 0 1 1 * xa1 >b", "7 0 1 1 * xa1 <a")
	for m := 0; m < 8; m++ {
		p.wantTick(t, m, 1, api.OK)
	}
	p.wantStart(t, 8, "", api.OK)
	for number := 1; number <= 7; number++ {
		p.wantStart(t, number, "b", api.OK)
	}
	p.wantEnds(t, "2d 3d 4d 5d 6d 7d")
}

// lacking is a pair whose log is so many bytes shorter than its room, behind
// the crontab and a tick at each of the minutes.
func lacking(t *testing.T, limit, left int, minutes []int, lines ...string) pair {
	t.Helper()
	tab := strings.Join(lines, "\n") + "\n"
	room := 1000 + left
	p := newPair(t, limit, room)
	fill(t, p, room-left-12*len(minutes)-len(tab)-7)
	p.wantLoad(t, tab, api.OK)
	for _, m := range minutes {
		if _, errno := p.tick(t, m); errno != api.OK {
			t.Fatalf("P8: Tick(%d): %d", m, errno)
		}
	}
	if len(p.box.Log()) != room-left {
		t.Fatalf("P7: %d bytes of %d, want %d", len(p.box.Log()), room, room-left)
	}
	return p
}

func TestJustRoomToStart(t *testing.T) {
	for _, c := range []struct {
		steps, said string
		bytes       int
	}{{"<a", "", 9}, {">b <a", "b", 9}, {">b", "b", 18}, {">b >c >d >e >f", "bcdef", 18}} {
		p := lacking(t, 1, c.bytes, []int{0}, onNewYear+"oa1 "+c.steps)
		p.wantStart(t, 1, c.said, api.OK)
		if v := p.box.Log(); len(v) != p.model.room {
			t.Fatalf("P7: a log of %d bytes, want %d", len(v), p.model.room)
		}
		for left := 0; left < c.bytes; left++ {
			p := lacking(t, 1, left, []int{0}, onNewYear+"oa1 "+c.steps)
			p.wantStart(t, 1, "", api.ErrRoom)
			p.wantStep(t, 1, 0)
			p.wantFeed(t, 1, "a", "", api.ErrState)
			p.wantStart(t, 1, "", api.ErrRoom)
		}
	}
}

// Of the errors that apply the first is told.
func TestOrderOfStartsErrors(t *testing.T) {
	p := lacking(t, 1, 39, []int{1, 2}, "1-2 0 1 1 * xa2 <a", "2 0 1 1 * oa1 >b")
	p.wantStart(t, 1, "", api.OK)
	p.wantStart(t, 2, "", api.ErrLock)
	p.wantStart(t, 3, "", api.ErrLimit)
	p.wantTick(t, 5, 0, api.OK)
	p.wantStart(t, 2, "", api.OK)
	if len(p.box.Log()) != p.model.room {
		t.Fatalf("P7: a log of %d bytes, want %d", len(p.box.Log()), p.model.room)
	}
	p.wantStart(t, 1, "", api.ErrEarly)
	p.wantStart(t, 2, "", api.ErrState)
	p.wantStart(t, 3, "", api.ErrLimit)
	p.wantStart(t, 4, "", api.ErrSlot)
	p = lacking(t, 1, 51, []int{1, 2}, "1-2 0 1 1 * xa2 <a", "2 0 1 1 * oa1 >b")
	p.wantStart(t, 1, "", api.OK)
	p.wantTick(t, 5, 0, api.OK)
	p.wantStart(t, 2, "", api.OK)
	p.wantTick(t, 7, 0, api.OK)
	p.wantStart(t, 1, "", api.ErrLock)
	p.wantStart(t, 3, "", api.ErrLimit)
	p.wantTick(t, 8, 0, api.ErrRoom)
}
