package bellman_test

import (
	"math"
	"strings"
	"testing"
	"time"

	"bellman/api"
	"bellman/bellman"
)

func TestExample9(t *testing.T) {
	p := begin(t, 1, 600, "*/5 * * * * xa2 >hi <ok >by")
	p.wantTick(t, 1000, 1, api.OK)
	p.wantTick(t, 1012, 2, api.OK)
	p.wantStart(t, 1, "hi", api.OK)
	log := p.box.Log()
	opened := wantOpen(t, log, len(log))
	for i, minute := range []int{1000, 1005, 1010} {
		opened.wantSlot(t, api.Slot{Number: i + 1, Line: 1, Minute: minute, Attempt: 1, From: minute})
	}
	opened.wantEnds(t, "")
	opened.wantFeed(t, 1, "ok", "", api.ErrState)
	opened.wantStart(t, 2, "hi", api.OK)
	// The box of which the log was taken knows nothing of that.
	p.wantFeed(t, 1, "ok", "by", api.OK)
}

func TestExample10(t *testing.T) {
	p, right := open(t, 1, 600, "x")
	if right != 0 {
		t.Errorf("P13: %d bytes are right", right)
	}
	if v := p.box.Look(); v != (api.View{Clock: -1, Next: 1}) {
		t.Errorf("P13: %+v", v)
	}
	wantWhole(t, p, "5a 0000000000 0001 0000 00 00")
}

func TestOpenOfNothing(t *testing.T) {
	p := wantOpen(t, "", 0)
	wantWhole(t, p, "5a 0000000000 0001 0000 00 00")
	p.wantLoad(t, onNewYear+"oa1 >a\n", api.OK)
	p.wantTick(t, 0, 1, api.OK)
	p.wantStart(t, 1, "a", api.OK)
}

func TestOpenOfWrongNumbers(t *testing.T) {
	logs := []string{"", "x", "\x00\x01T\xbe\x04\x7a\x60", strings.Repeat("x", 4000), strings.Repeat("x", 4001), strings.Repeat("\x00", 1000000)}
	limits := []int{math.MinInt, -65535, -1, 0, 5, 6, 257, 1<<32 + 1, math.MaxInt}
	rooms := []int{math.MinInt, -1000, -1, 0, 1, 599, 4001, 4002, 65536 + 600, 1<<32 + 600, math.MaxInt}
	want := func(limit, room int, log string) {
		t.Helper()
		if b, n, e := bellman.Open(limit, room, log); b != nil || n != 0 || e != api.ErrNumber {
			t.Errorf("P13: Open(%d, %d, %d bytes) = %v, %d, %d", limit, room, len(log), b, n, e)
		}
	}
	for _, log := range logs {
		for _, limit := range limits {
			for _, room := range append([]int{600, 1000, 4000}, rooms...) {
				want(limit, room, log)
			}
		}
		for _, room := range rooms {
			for limit := 1; limit <= 4; limit++ {
				want(limit, room, log)
			}
		}
	}
}

func TestOpenOfTooLongALog(t *testing.T) {
	right := framesOf("Z\x00\x00\x00\x00\x00\x00\x01\x00\x00\x00\x00")
	for _, length := range []int{4001, 4002, 5000, 65536, 65536 + 600, 1000000} {
		for _, log := range []string{strings.Repeat("x", length), strings.Repeat("\x00", length), right + strings.Repeat("T", length-len(right)), strings.Repeat(framesOf("T"), 1+length/7)} {
			for limit := 1; limit <= 4; limit++ {
				for _, room := range []int{600, 4000} {
					if b, n, e := bellman.Open(limit, room, log); b != nil || n != 0 || e != api.ErrLong {
						t.Errorf("P13: Open(%d, %d, %d bytes) = %v, %d, %d", limit, room, len(log), b, n, e)
					}
				}
			}
		}
	}
}

// A log of 4000 bytes fits whatever the room is, as only the state is kept.
func TestOpenOfTheLongestLog(t *testing.T) {
	log := strings.Repeat(framesOf("T"), 568) + framesOf(clockBody(5), clockBody(1505))
	if len(log) != 4000 {
		t.Fatalf("a log of %d bytes", len(log))
	}
	for limit := 1; limit <= 4; limit++ {
		for _, room := range []int{600, 601, 3999, 4000} {
			p, right := open(t, limit, room, log)
			if right != 4000 || p.box.Look().Clock != 1505 {
				t.Errorf("P13: %d bytes are right, the clock is %d", right, p.box.Look().Clock)
			}
		}
	}
	wantOpen(t, log[:3999], 3988)
	wantOpen(t, "x"+log[:3999], 0)
	wantOpen(t, strings.Repeat("x", 4000), 0)
	wantOpen(t, strings.Repeat("\x00", 4000), 0)
	wantOpen(t, strings.Repeat("\xff", 4000), 0)
}

// The limit and the room are those that Open was given.
func TestLimitAndRoomOfAnOpenedBox(t *testing.T) {
	source := begin(t, 4, 4000, "* * * * * oa5 <a")
	source.wantTick(t, 10, 1, api.OK)
	source.wantTick(t, 17, 7, api.OK)
	for number := 1; number <= 4; number++ {
		source.wantStart(t, number, "", api.OK)
	}
	log := source.box.Log()
	for limit := 1; limit <= 4; limit++ {
		for _, room := range []int{600, 611, 4000} {
			p, right := open(t, limit, room, log)
			if right != len(log) {
				t.Fatalf("P13: %d bytes of %d are right", right, len(log))
			}
			for number := 1; number <= limit; number++ {
				p.wantStart(t, number, "", api.OK)
			}
			p.wantStart(t, limit+1, "", api.ErrLimit)
			for p.cancel(t, p.model.slots[0].Number) == api.OK && len(p.model.slots) > 0 {
			}
			for p.load(t, "") == api.OK {
			}
			if left := room - len(p.box.Log()); left < 0 || left >= 9 {
				t.Errorf("P7: %d bytes are left of a room of %d", left, room)
			}
		}
	}
}

// As many may have run as another limit allowed, and more: the frames are
// right, but nothing runs when the box is open.
func TestMoreRunThanTheLimit(t *testing.T) {
	source := begin(t, 4, 4000, "* * * * * oa5 <a")
	source.wantTick(t, 10, 1, api.OK)
	source.wantTick(t, 17, 7, api.OK)
	log := source.box.Log()
	for number := 1; number <= 8; number++ {
		log += framesOf(slotBody('S', number))
	}
	for limit := 1; limit <= 4; limit++ {
		p, right := open(t, limit, 600, log)
		if right != len(log) {
			t.Errorf("P13: %d bytes of %d are right", right, len(log))
		}
		for number := 1; number <= 8; number++ {
			p.wantStep(t, number, 0)
		}
	}
	eight := "Z\x00\x00\x00\x00\x12\x00\x09\x00\x11* * * * * oa5 <a\n\x08"
	for number := 1; number <= 8; number++ {
		eight += string([]byte{0, byte(number), 1, 0, 0, 0, 0, byte(number), 1, 0, 0, 0, 0, byte(number), 1})
	}
	whole := framesOf(eight + "\x00")
	for limit := 1; limit <= 4; limit++ {
		if p, right := open(t, limit, 600, whole); right != len(whole) || p.box.Look().Slots != 8 {
			t.Errorf("P13: %d bytes of %d are right", right, len(whole))
		}
	}
}

// An interrupted slot keeps its attempt and its FROM, and begins to talk anew.
func TestWhatWasInterrupted(t *testing.T) {
	p := begin(t, 3, 4000, onNewYear+"xa3 >x <ab <c", onNewYear+"xa1 <y", onNewYear+"oa1 <z")
	p.wantTick(t, 0, 3, api.OK)
	p.wantStart(t, 1, "x", api.OK)
	p.wantTick(t, 3, 0, api.OK)
	p.wantTick(t, 6, 0, api.OK)
	p.wantStart(t, 1, "x", api.OK)
	p.wantStart(t, 2, "", api.OK)
	p.wantFeed(t, 1, "aba", "", api.OK)
	p.wantStep(t, 1, 3)
	for _, compact := range []bool{false, true} {
		if compact {
			p.compact(t)
		}
		log := p.box.Log()
		q := wantOpen(t, log, len(log))
		q.wantSlot(t, api.Slot{Number: 1, Line: 1, Attempt: 2, From: 5})
		q.wantSlot(t, api.Slot{Number: 2, Line: 2, Attempt: 1})
		q.wantFeed(t, 1, "c", "", api.ErrState)
		// Long ago it was started: what does not run does not fail.
		q.wantTick(t, 20, 0, api.OK)
		q.wantSlot(t, api.Slot{Number: 1, Line: 1, Attempt: 2, From: 5})
		q.wantStart(t, 1, "x", api.OK)
		q.wantFeed(t, 1, "b", "", api.OK)
		q.wantStep(t, 1, 2)
		q.wantTick(t, 22, 0, api.OK)
		q.wantStep(t, 1, 2)
		q.wantTick(t, 23, 0, api.OK)
		q.wantSlot(t, api.Slot{Number: 1, Line: 1, Attempt: 3, From: 27})
	}
}

// A box that is opened again and again of its own log tells the same.
func TestOpenOfAnOpenedLog(t *testing.T) {
	p := begin(t, 4, 4000, "* * * * * oa2 >a <b", "*/2 * * * * xl1 >c")
	p.wantTick(t, 100, 2, api.OK)
	p.wantTick(t, 105, 6, api.OK)
	p.wantStart(t, 1, "a", api.OK)
	p.wantStart(t, 2, "c", api.OK)
	log := p.box.Log()
	p = wantOpen(t, log, len(log))
	for i := 0; i < 5; i++ {
		log = p.box.Log()
		p = wantOpen(t, log, len(log))
		if p.box.Log() != log {
			t.Fatalf("P13: opened of %x the log is %x", log, p.box.Log())
		}
	}
}

// Two boxes of one log know nothing of each other (P2).
func TestTwoBoxesOfOneLog(t *testing.T) {
	source := begin(t, 2, 4000, "* * * * * oa2 >a <bc", "* * * * * xa2 <d")
	source.wantTick(t, 100, 2, api.OK)
	source.wantTick(t, 103, 6, api.OK)
	log := source.box.Log()
	one := wantOpen(t, log, len(log))
	other := wantOpen(t, log, len(log))
	one.wantStart(t, 1, "a", api.OK)
	other.wantStart(t, 1, "a", api.OK)
	one.wantFeed(t, 1, "b", "", api.OK)
	other.wantFeed(t, 1, "c", "", api.OK)
	other.wantCancel(t, 2, api.OK)
	one.wantFeed(t, 1, "c", "", api.OK)
	one.wantTick(t, 110, 14, api.OK)
	source.wantStart(t, 2, "", api.OK)
	for _, p := range []pair{source, one, other} {
		wantSame(t, p.box, p.model)
	}
}

// The clocks of a log go on by up to 1500 minutes each: it takes its time, but
// not more than that.
func TestOpenEnds(t *testing.T) {
	tab := strings.Repeat("0-59,0-59,0-59 0-23 * * * on5 >a\n", 4)
	bodies := []string{"T" + tab, clockBody(59)}
	for m := 59 + 1499; len(framesOf(bodies...)) < 3900; m += 1499 {
		bodies = append(bodies, clockBody(m))
	}
	log := framesOf(bodies...)
	before := time.Now()
	b, n, e := bellman.Open(1, 600, log)
	if b == nil || n != len(log) || e != api.OK {
		t.Fatalf("P13: Open of %d bytes: %d, %d", len(log), n, e)
	}
	if spent := time.Since(before); spent > 20*time.Second {
		t.Errorf("P1: Open took %v", spent)
	}
}
