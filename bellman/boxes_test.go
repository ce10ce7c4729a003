package bellman_test

import (
	"fmt"
	"math/rand"
	"strings"
	"testing"

	"bellman/api"
)

// randomTab is a crontab whose lines are due now and then, or often.
func randomTab(random *rand.Rand) string {
	tab := ""
	for i := random.Intn(5); i > 0; i-- {
		fields := [5]string{"*", "*", "*", "*", "*"}
		for place := range fields {
			if random.Intn(4) == 0 {
				fields[place] = randomField(random, bounds[place])
			}
		}
		options := fmt.Sprintf("%c%c%d", "xo"[random.Intn(2)], "aln"[random.Intn(3)], 1+random.Intn(5))
		tab += strings.Join(fields[:], " ") + " " + options
		for steps := 1 + random.Intn(5); steps > 0; steps-- {
			tab += " " + string("><"[random.Intn(2)]) + randomWord(random)
		}
		tab += "\n"
	}
	return tab
}

// randomWord has few letters, so that words are found, and their beginnings
// stand in one another.
func randomWord(random *rand.Rand) string {
	length := 1 + random.Intn(3)
	if random.Intn(4) == 0 {
		length = 1 + random.Intn(8)
	}
	return randomOf(random, "aab", length)
}

func randomOf(random *rand.Rand, letters string, length int) string {
	text := ""
	for len(text) < length {
		text += string(letters[random.Intn(len(letters))])
	}
	return text
}

func randomFeed(random *rand.Rand) string {
	switch random.Intn(10) {
	case 0:
		return randomText(random)
	case 1:
		return randomOf(random, "aab ", 38+random.Intn(5))
	case 2:
		return randomOf(random, "aab", random.Intn(41))
	}
	return randomOf(random, "aaaabbb ", random.Intn(7))
}

// randomSlot is mostly the number of a slot.
func randomSlot(random *rand.Rand, x *modelBox) int {
	if len(x.slots) == 0 || random.Intn(12) == 0 {
		return x.next - random.Intn(10)
	}
	if random.Intn(20) == 0 {
		return randomNumber(random)
	}
	return x.slots[random.Intn(len(x.slots))].Number
}

func randomJump(random *rand.Rand, clock int) int {
	switch random.Intn(8) {
	case 0:
		return randomNumber(random)
	case 1:
		return clock + 1499 + random.Intn(4)
	case 2:
		return clock - 1 + random.Intn(3)
	case 3:
		return clock + random.Intn(1500)
	}
	return clock + 1 + random.Intn(10)
}

// doSomething does one thing at random to a box and its model.
func doSomething(t *testing.T, random *rand.Rand, p pair) api.Errno {
	t.Helper()
	if p.model.clock == -1 && random.Intn(4) > 0 {
		return p.load(t, randomTab(random))
	}
	switch random.Intn(24) {
	case 0, 1:
		return p.load(t, randomTab(random))
	case 2:
		return p.load(t, randomText(random))
	case 3, 4:
		return p.cancel(t, randomSlot(random, p.model))
	case 5, 6, 7, 8, 9, 10:
		_, errno := p.start(t, randomSlot(random, p.model))
		return errno
	case 11, 12, 13, 14, 15, 16, 17, 18:
		_, errno := p.feed(t, randomSlot(random, p.model), randomFeed(random))
		return errno
	}
	_, errno := p.tick(t, randomJump(random, p.model.clock))
	return errno
}

// wantBounds asks the box itself for what must hold at all times (P15).
func wantBounds(t *testing.T, p pair) {
	t.Helper()
	running := [5]int{}
	all := 0
	for i := 0; i < p.box.Look().Slots; i++ {
		s, e := p.box.Slot(i)
		job := p.model.lines[s.Line-1]
		if e != api.OK || s.Attempt < 1 || s.Attempt > job.attempts {
			t.Fatalf("P15: slot %+v of a line with %d attempts", s, job.attempts)
		}
		if s.Step > 0 {
			all++
			running[s.Line]++
			if s.From > p.box.Look().Clock || job.alone && running[s.Line] > 1 {
				t.Fatalf("P15: slot %+v runs at the clock %d, %d of its line", s, p.box.Look().Clock, running[s.Line])
			}
		}
	}
	if all > p.model.limit {
		t.Fatalf("P15: %d slots run, the limit is %d", all, p.model.limit)
	}
}

// Several boxes at a time, each against a model of its own: what is done with
// one must not show in another.
func TestBoxesAgainstTheirModels(t *testing.T) {
	random := rand.New(rand.NewSource(6))
	seen := [14]int{}
	ends := map[string]int{}
	for round := 0; round < 300; round++ {
		pairs := []pair{}
		for len(pairs) < 3 {
			pairs = append(pairs, newPair(t, 1+random.Intn(4), 600+random.Intn(3401)))
		}
		for i := 0; i < 300; i++ {
			which := random.Intn(len(pairs))
			p := pairs[which]
			errno := doSomething(t, random, p)
			seen[errno]++
			wantBounds(t, p)
			switch random.Intn(150) {
			case 0:
				p.compact(t)
			case 1:
				opened, _ := open(t, p.model.limit, p.model.room, p.box.Log())
				pairs[which] = opened
			}
		}
		for _, p := range pairs {
			wantSame(t, p.box, p.model)
			for _, end := range p.model.ends {
				ends[end.How]++
			}
		}
	}
	for errno, count := range seen {
		if count < 10 {
			t.Errorf("the answer %d came only %d times: the test says too little", errno, count)
		}
	}
	for _, how := range []string{"d", "a", "k", "s"} {
		if ends[how] < 50 {
			t.Errorf("only %d slots ended as %s: the test says too little", ends[how], how)
		}
	}
	t.Logf("answers %v, ends %v", seen, ends)
}

// What a box answers hangs on nothing but what was done with it: the same
// once more, with another box in between, has the same answers.
func TestP2BoxesKnowNothingOfOneAnother(t *testing.T) {
	other := begin(t, 4, 4000, "* * * * * oa5 >a <ab", "* * * * * oa1 <a")
	logs := []string{}
	for i := 0; i < 3; i++ {
		p := begin(t, 1, 600, "*/7 * * * * xl2 >b <ab >c", "* * * * * oa1 <b")
		for m := 50; m < 80; m += 3 {
			p.tick(t, m)
			other.tick(t, m+100*i)
			for number := 1; number <= 5; number++ {
				other.start(t, number+i)
				p.start(t, number)
				p.feed(t, number, "ba")
				other.feed(t, number, "b")
				other.feed(t, number, "a")
				p.feed(t, number, "b")
			}
			other.cancel(t, m-40)
		}
		logs = append(logs, p.box.Log())
		wantSame(t, other.box, other.model)
	}
	if logs[0] != logs[1] || logs[1] != logs[2] {
		t.Errorf("P2: the same calls made the logs %x", logs)
	}
}
