package bellman_test

import (
	"math/rand"
	"strings"
	"testing"

	"bellman/api"
	"bellman/bellman"
)

// opened is a box of the first bytes of a log, of which so many are right, and
// that must be like this model.
func opened(t *testing.T, log string, right int, x *modelBox) pair {
	t.Helper()
	b, n, e := bellman.Open(x.limit, x.room, log)
	if b == nil || n != right || e != api.OK {
		t.Fatalf("P14: Open of %d bytes = %v, %d, %d, want %d", len(log), b, n, e, right)
	}
	wantSame(t, b, x)
	return pair{box: b, model: x}
}

// lastMark is the one that a cut leaves.
func lastMark(all []mark, cut int) mark {
	last := all[0]
	for _, m := range all {
		if m.bytes <= cut {
			last = m
		}
	}
	return last
}

// call does something, and lets power fail in it, at every byte that the log
// has grown by. It answers a pair for each, that of the last byte included.
func call(t *testing.T, random *rand.Rand, p pair, something func()) []pair {
	t.Helper()
	old := p.box.Log()
	before := p.model.interrupted()
	p.model.marks = nil
	something()
	log := p.box.Log()
	if !strings.HasPrefix(log, old) {
		t.Fatalf("P7: the log was %x and is %x", old, log)
	}
	all := append([]mark{{bytes: len(old), model: before}}, p.model.marks...)
	if all[len(all)-1].bytes != len(log) {
		t.Fatalf("a log of %d bytes, the last mark is at %d", len(log), all[len(all)-1].bytes)
	}
	pairs := []pair{}
	for cut := len(old); cut <= len(log); cut++ {
		m := lastMark(all, cut)
		x := m.model.interrupted()
		x.limit, x.room = 1+random.Intn(4), 600+random.Intn(3401)
		pairs = append(pairs, opened(t, log[:cut], m.bytes, x))
	}
	return pairs
}

// ledger knows which numbers have ended, and the ends that were told last.
type ledger struct {
	ended map[int]string
	last  []api.End
}

// wantNoneAgain: no slot that has ended is a slot again, and none ends twice.
func (l *ledger) wantNoneAgain(t *testing.T, b *bellman.Box) {
	t.Helper()
	told := []api.End{}
	for i := 0; i < b.Look().Ends; i++ {
		end, _ := b.End(i)
		told = append(told, end)
		known := false
		for _, old := range l.last {
			known = known || old == end
		}
		if how, again := l.ended[end.Number]; again && !known {
			t.Fatalf("P14: number %d has ended, %s, and once more, %s", end.Number, how, end.How)
		}
		l.ended[end.Number] = end.How
	}
	l.last = told
	for i := 0; i < b.Look().Slots; i++ {
		slot, _ := b.Slot(i)
		if how, again := l.ended[slot.Number]; again {
			t.Fatalf("P14: number %d has ended, %s, and is a slot again", slot.Number, how)
		}
	}
}

// Power fails within calls and between them; then the box goes on, with
// another limit and another room.
func TestP14PowerFails(t *testing.T) {
	random := rand.New(rand.NewSource(14))
	within, between := 0, 0
	for round := 0; round < 60; round++ {
		p := newPair(t, 1+random.Intn(4), 600+random.Intn(3401))
		l := &ledger{ended: map[int]string{}}
		for i := 0; i < 80; i++ {
			pairs := call(t, random, p, func() { doSomething(t, random, p) })
			wantBounds(t, p)
			switch random.Intn(25) {
			case 0:
				p = pairs[0]
			case 1:
				p = pairs[len(pairs)-1]
				between++
			case 2, 3:
				p = pairs[random.Intn(len(pairs))]
				if len(pairs) > 1 {
					within++
				}
			case 4:
				p.compact(t)
			}
			l.wantNoneAgain(t, p.box)
			wantBounds(t, p)
		}
	}
	if within < 50 || between < 50 {
		t.Errorf("power failed %d times within calls, %d between: the test says too little", within, between)
	}
}

// Four slots fail in one tick: as many of them have failed as whole frames
// are left.
func TestP14PowerFailsInATick(t *testing.T) {
	p := begin(t, 4, 4000, "0-3 0 1 1 * oa2 <a")
	p.wantTick(t, 0, 1, api.OK)
	p.wantTick(t, 3, 3, api.OK)
	for _, number := range []int{3, 1, 4, 2} {
		p.wantStart(t, number, "", api.OK)
	}
	p.wantTick(t, 5, 0, api.OK)
	old := len(p.box.Log())
	p.wantTick(t, 6, 0, api.OK)
	log := p.box.Log()
	if len(log) != old+12+4*9 {
		t.Fatalf("P8: the log has grown by %d bytes", len(log)-old)
	}
	for cut := old; cut <= len(log); cut++ {
		clock, failed, right := 5, 0, old
		if cut >= old+12 {
			clock, failed = 6, (cut-old-12)/9
			right = old + 12 + 9*failed
		}
		q := wantOpen(t, log[:cut], right)
		if q.box.Look().Clock != clock {
			t.Errorf("P14: cut at %d the clock is %d, want %d", cut-old, q.box.Look().Clock, clock)
		}
		for number := 1; number <= 4; number++ {
			want := api.Slot{Number: number, Line: 1, Minute: number - 1, Attempt: 1, From: number - 1}
			if number <= failed {
				want.Attempt, want.From = 2, 8
			}
			q.wantSlot(t, want)
		}
	}
}

// A slot that says all at once has ended if the last frame is whole. If only
// the frame of its start is left, it waits, and says it once more.
func TestP14PowerFailsInAStart(t *testing.T) {
	p := begin(t, 1, 600, onNewYear+"xa1 >hi >by")
	p.wantTick(t, 0, 1, api.OK)
	old := len(p.box.Log())
	p.wantStart(t, 1, "hiby", api.OK)
	log := p.box.Log()
	for cut := old; cut < len(log); cut++ {
		right := old
		if cut >= old+9 {
			right = old + 9
		}
		q := wantOpen(t, log[:cut], right)
		q.wantSlot(t, api.Slot{Number: 1, Line: 1, Attempt: 1})
		q.wantEnds(t, "")
		q.wantStart(t, 1, "hiby", api.OK)
		q.wantEnds(t, "1d")
	}
	q := wantOpen(t, log, len(log))
	q.wantEnds(t, "1d")
	q.wantStart(t, 1, "", api.ErrSlot)
}

// What was said and heard before power failed is said and heard again, unless
// the slot was done.
func TestP14PowerFailsInAFeed(t *testing.T) {
	p := talking(t, ">x <a <b >y")
	p.wantFeed(t, 1, "a", "", api.OK)
	old := len(p.box.Log())
	p.wantFeed(t, 1, "b", "y", api.OK)
	log := p.box.Log()
	for cut := old; cut < len(log); cut++ {
		q := wantOpen(t, log[:cut], old)
		q.wantEnds(t, "")
		q.wantFeed(t, 1, "b", "", api.ErrState)
		q.wantStart(t, 1, "x", api.OK)
		q.wantFeed(t, 1, "b", "", api.OK)
		q.wantFeed(t, 1, "ab", "y", api.OK)
	}
	q := wantOpen(t, log, len(log))
	q.wantEnds(t, "1d")
}

// Loads and cancels are one change each: it is there, or it is not.
func TestP14PowerFailsInALoadOrACancel(t *testing.T) {
	p := begin(t, 1, 600, onNewYear+"xa1 <a")
	first := p.box.Log()
	p.wantLoad(t, onNewYear+"xa1 <b\n", api.OK)
	log := p.box.Log()
	for cut := len(first); cut < len(log); cut++ {
		q := wantOpen(t, log[:cut], len(first))
		if tab := q.box.Look().Tab; tab != onNewYear+"xa1 <a\n" {
			t.Errorf("P14: the crontab is %q", tab)
		}
	}
	p.wantTick(t, 0, 1, api.OK)
	p.wantStart(t, 1, "", api.OK)
	old := len(p.box.Log())
	p.wantCancel(t, 1, api.OK)
	log = p.box.Log()
	for cut := old; cut < len(log); cut++ {
		q := wantOpen(t, log[:cut], old)
		q.wantStart(t, 1, "", api.OK)
		q.wantFeed(t, 1, "b", "", api.OK)
		q.wantEnds(t, "1d")
	}
	wantOpen(t, log, len(log)).wantEnds(t, "1k")
}
