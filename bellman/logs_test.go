package bellman_test

import (
	"math/rand"
	"testing"

	"bellman/api"
	"bellman/bellman"
)

// randomBody is mostly a change that may be, or nearly.
func randomBody(random *rand.Rand, x *modelBox) string {
	switch random.Intn(12) {
	case 0:
		return "T" + randomTab(random)
	case 1, 2, 3:
		return clockBody(max(0, randomJump(random, x.clock)))
	case 4:
		return randomOf(random, "CSDFKTZ", 1) + randomOf(random, "\x00\x00\x00\x01\x02\n", random.Intn(8))
	case 5:
		return string(x.whole())
	}
	return slotBody("SSSSSDDFFK"[random.Intn(10)], randomSlot(random, x))
}

// randomBodies are those of a log, most of them right, and the state that they
// tell.
func randomBodies(random *rand.Rand, x *modelBox, count int) []string {
	bodies := []string{}
	for len(bodies) < count {
		body := randomBody(random, x)
		if x.replay(body, false) || random.Intn(60) == 0 {
			bodies = append(bodies, body)
		} else {
			count--
		}
	}
	return bodies
}

// spoilState changes one number of a state by a little, or by much.
func spoilState(random *rand.Rand, x *modelBox) {
	by := []int{-1, 1, -1, 1, 2, -2, 10, -10, 11, 1000, -1000, 0}[random.Intn(12)]
	slot, end := &api.Slot{}, &api.End{}
	if len(x.slots) > 0 {
		slot = &x.slots[random.Intn(len(x.slots))]
	}
	if len(x.ends) > 0 {
		end = &x.ends[random.Intn(len(x.ends))]
	}
	switch random.Intn(15) {
	case 0:
		x.clock += by
	case 1:
		x.next += by
	case 2:
		x.tab = randomText(random)
	case 3:
		slot.Number += by
	case 4:
		slot.Line += by
	case 5:
		slot.Minute += by
	case 6:
		slot.Attempt += by
	case 7:
		slot.From += by
	case 8:
		slot.Step = 1 - min(slot.Step, 1)
	case 9:
		end.Number += by
	case 10:
		end.How = randomOf(random, "daksDAKS\x00", 1)
	case 11:
		x.slots = append(x.slots, *slot)
	case 12:
		x.ends = append(x.ends, *end)
	case 13:
		x.clock, x.next = randomNumber(random), randomNumber(random)
	case 14:
		slot.Attempt, slot.From, slot.Step = 2, x.clock-1+random.Intn(14), random.Intn(2)
	}
}

// spoil changes a text in some way, at random.
func spoil(random *rand.Rand, text string) string {
	at := random.Intn(len(text) + 1)
	to := at + random.Intn(len(text)-at+1)
	switch random.Intn(6) {
	case 0:
		return text[:at]
	case 1:
		return text[:at] + randomOf(random, "\x00\x01\x02TZ\xff", 1+random.Intn(3)) + text[at:]
	case 2:
		return text[:at] + text[to:]
	case 3:
		return text[:to] + text[at:]
	case 4:
		return text + randomText(random)
	}
	if len(text) == 0 {
		return text
	}
	bytes := []byte(text)
	bytes[random.Intn(len(bytes))] ^= 1 << random.Intn(8)
	return string(bytes)
}

// randomWhole is the body of a Z, right or not, and why not.
func randomWhole(random *rand.Rand, x *modelBox) (string, string) {
	times := random.Intn(3)
	for i := 0; i < times; i++ {
		spoilState(random, x)
	}
	body := string(x.whole())
	if random.Intn(10) == 0 {
		body = "Z" + spoil(random, body[1:])
	}
	if len(body) > 65535 {
		body = body[:65535]
	}
	_, why := stateOf(body)
	return body, why
}

func randomLog(random *rand.Rand, reasons map[string]int) string {
	x := newModel(4, 4000)
	if random.Intn(15) == 0 {
		bytes := make([]byte, random.Intn(4100))
		random.Read(bytes)
		return string(bytes)
	}
	log := framesOf(randomBodies(random, x, random.Intn(60))...)
	if random.Intn(3) > 0 {
		body, why := randomWhole(random, x)
		reasons[why]++
		log = framesOf(body)
		if y, _ := stateOf(body); y != nil && why == "" {
			log += framesOf(randomBodies(random, y, random.Intn(20))...)
		}
	}
	if random.Intn(3) == 0 {
		log = spoil(random, log)
	}
	return log
}

// Logs of any bytes, of frames of all kinds, of states that may be and that may
// not, and spoilt ones, against the model.
func TestLogsAgainstTheModel(t *testing.T) {
	random := rand.New(rand.NewSource(13))
	reasons := map[string]int{}
	some, all, long := 0, 0, 0
	for round := 0; round < 5000; round++ {
		log := randomLog(random, reasons)
		limit, room := 1+random.Intn(4), 600+random.Intn(3401)
		if len(log) > 4000 {
			long++
			if b, n, e := bellman.Open(limit, room, log); b != nil || n != 0 || e != api.ErrLong {
				t.Fatalf("P13: Open of %d bytes = %v, %d, %d", len(log), b, n, e)
			}
			continue
		}
		p, right := open(t, limit, room, log)
		switch {
		case right == len(log):
			all++
		case right > 0:
			some++
		}
		for i := 0; i < 10; i++ {
			doSomething(t, random, p)
			wantBounds(t, p)
		}
		again := p.box.Log()
		if _, n := open(t, limit, room, again); n != len(again) {
			t.Fatalf("P14: of its own log of %d bytes %d are right", len(again), n)
		}
	}
	for _, why := range []string{"", "a part is lacking", "not as it would be written", "the clock is no minute", "no next number", "no crontab", "too many slots", "too many ends", "slots that do not rise", "a slot's number", "no line", "a minute to come", "no attempt", "from of the first attempt", "from of a later attempt", "runs too early", "runs beside another", "an end's number", "a number twice", "no way to end"} {
		if reasons[why] < 10 {
			t.Errorf("only %d states that are wrong for %q: the test says too little", reasons[why], why)
		}
	}
	if all < 500 || some < 500 || long < 10 {
		t.Errorf("%d logs were right, %d in part, %d too long: the test says too little", all, some, long)
	}
	t.Logf("%d logs were right, %d in part, %d too long; states %v", all, some, long, reasons)
}
