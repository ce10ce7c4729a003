package bellman_test

import (
	"testing"

	"bellman/api"
)

func TestCancelOfOneThatWaits(t *testing.T) {
	p := begin(t, 1, 600, "* * * * * xa2 <a")
	p.wantTick(t, 1, 1, api.OK)
	p.wantTick(t, 3, 2, api.OK)
	length := len(p.box.Log())
	p.wantCancel(t, 2, api.OK)
	p.wantEnds(t, "2k")
	wantSlots(t, p, [3]int{1, 1, 1}, [3]int{3, 1, 3})
	p.wantFrames(t, length, "K\x00\x02")
	p.wantCancel(t, 2, api.ErrSlot)
	p.wantStart(t, 2, "", api.ErrSlot)
	p.wantFeed(t, 2, "a", "", api.ErrSlot)
}

func TestCancelOfOneThatRuns(t *testing.T) {
	p := begin(t, 1, 600, "* * * * * xa2 >x <a")
	p.wantTick(t, 1, 1, api.OK)
	p.wantTick(t, 3, 2, api.OK)
	p.wantStart(t, 2, "x", api.OK)
	p.wantFeed(t, 2, "b", "", api.OK)
	length := len(p.box.Log())
	p.wantCancel(t, 2, api.OK)
	p.wantEnds(t, "2k")
	wantSlots(t, p, [3]int{1, 1, 1}, [3]int{3, 1, 3})
	p.wantFrames(t, length, "K\x00\x02")
	p.wantCancel(t, 2, api.ErrSlot)
	p.wantFeed(t, 2, "a", "", api.ErrSlot)
	p.wantStart(t, 3, "x", api.OK)
}

func TestCancelOfOneThatWaitsForItsNextAttempt(t *testing.T) {
	p := talking(t, "<a")
	p.wantTick(t, 3, 0, api.OK)
	p.wantStart(t, 1, "", api.ErrEarly)
	p.wantCancel(t, 1, api.OK)
	p.wantEnds(t, "1k")
	p.wantTick(t, 10, 0, api.OK)
	p.wantStart(t, 1, "", api.ErrSlot)
}

func TestCancelOfNoSlot(t *testing.T) {
	p := newPair(t, 1, 600)
	p.wantCancel(t, 1, api.ErrSlot)
	p.wantLoad(t, onNewYear+"oa2 <ab\n"+onNewYear+"oa1 <b\n", api.OK)
	p.wantTick(t, 0, 2, api.OK)
	for i := 0; i < 2; i++ {
		for _, number := range wrongNumbers {
			p.wantCancel(t, number, api.ErrSlot)
		}
		p.wantCancel(t, 3, api.ErrSlot)
		p.start(t, 1)
	}
	p.wantCancel(t, 1, api.OK)
	p.wantCancel(t, 1, api.ErrSlot)
	p.wantCancel(t, 2, api.OK)
	p.wantCancel(t, 2, api.ErrSlot)
}

func TestCancelMakesPlace(t *testing.T) {
	p := begin(t, 1, 4000, eachMinute)
	p.wantTick(t, 1, 1, api.OK)
	p.wantTick(t, 9, 8, api.OK)
	p.wantEnds(t, "9s")
	p.wantCancel(t, 4, api.OK)
	p.wantTick(t, 11, 2, api.OK)
	p.wantEnds(t, "9s 4k 11s")
	for _, number := range []int{8, 1, 10, 2, 7} {
		p.wantCancel(t, number, api.OK)
	}
	p.wantEnds(t, "11s 8k 1k 10k 2k 7k")
}

func TestJustRoomToCancel(t *testing.T) {
	for left := 0; left <= 9; left++ {
		waits := lacking(t, 1, left, []int{0}, onNewYear+"oa1 <a")
		runs := lacking(t, 1, left+9, []int{0}, onNewYear+"oa1 <a")
		runs.wantStart(t, 1, "", api.OK)
		waits.wantCancel(t, 2, api.ErrSlot)
		runs.wantCancel(t, 2, api.ErrSlot)
		if left == 9 {
			waits.wantCancel(t, 1, api.OK)
			runs.wantCancel(t, 1, api.OK)
			continue
		}
		waits.wantCancel(t, 1, api.ErrRoom)
		runs.wantCancel(t, 1, api.ErrRoom)
		runs.wantFeed(t, 1, "x", "", api.OK)
		runs.wantStep(t, 1, 1)
	}
}

func TestLoadWhenTheLastSlotHasEnded(t *testing.T) {
	for _, how := range waysToStop {
		p := begin(t, 2, 4000, onNewYear+"oa1 <a", onNewYear+"oa1 <a")
		p.wantTick(t, 0, 2, api.OK)
		p.wantStart(t, 2, "", api.OK)
		p.wantLoad(t, "", api.ErrBusy)
		stop(t, p, 2, how)
		p.wantLoad(t, "", api.ErrBusy)
		p.wantCancel(t, 1, api.OK)
		p.wantLoad(t, "* * * * * oa1 >new\n", api.OK)
		p.tick(t, p.model.clock+1)
		p.wantStart(t, 3, "new", api.OK)
		p.wantLoad(t, "", api.OK)
	}
}
