package bellman_test

import (
	"fmt"
	"math/rand"
	"strings"
	"testing"

	"bellman/api"
)

// randomTab is a crontab whose lines are due now and then, or often.
func randomTab(random *rand.Rand) string {
	tab := ""
	for i := random.Intn(5); i > 0; i-- {
		fields := [5]string{"*", "*", "*", "*", "*"}
		for place := range fields {
			if random.Intn(4) == 0 {
				fields[place] = randomField(random, bounds[place])
			}
		}
		options := fmt.Sprintf("%c%c%d", "xo"[random.Intn(2)], "aln"[random.Intn(3)], 1+random.Intn(5))
		tab += strings.Join(fields[:], " ") + " " + options + " >hi <ok\n"
	}
	return tab
}

func randomJump(random *rand.Rand, clock int) int {
	switch random.Intn(8) {
	case 0:
		return randomNumber(random)
	case 1:
		return clock + 1499 + random.Intn(4)
	case 2:
		return clock - 1 + random.Intn(3)
	case 3:
		return clock + random.Intn(1500)
	}
	return clock + 1 + random.Intn(10)
}

// doSomething does one thing at random to a box and its model.
func doSomething(t *testing.T, random *rand.Rand, p pair) api.Errno {
	t.Helper()
	switch random.Intn(12) {
	case 0:
		return p.load(t, randomTab(random))
	case 1:
		return p.load(t, randomText(random))
	}
	if p.model.clock == -1 && random.Intn(4) > 0 {
		return p.load(t, randomTab(random))
	}
	_, errno := p.tick(t, randomJump(random, p.model.clock))
	return errno
}

// Several boxes at a time, each against a model of its own: what is done with
// one must not show in another.
func TestBoxesAgainstTheirModels(t *testing.T) {
	random := rand.New(rand.NewSource(6))
	seen := [14]int{}
	for round := 0; round < 150; round++ {
		pairs := []pair{}
		for len(pairs) < 3 {
			pairs = append(pairs, newPair(t, 1+random.Intn(4), 600+random.Intn(3401)))
		}
		for i := 0; i < 120; i++ {
			errno := doSomething(t, random, pairs[random.Intn(len(pairs))])
			seen[errno]++
		}
		for _, p := range pairs {
			wantSame(t, p.box, p.model)
		}
	}
	for _, errno := range []api.Errno{api.OK, api.ErrLong, api.ErrMany, api.ErrLine, api.ErrNumber, api.ErrBusy, api.ErrClock, api.ErrIds, api.ErrRoom} {
		if seen[errno] < 50 {
			t.Errorf("the answer %d came only %d times: the test says too little", errno, seen[errno])
		}
	}
}

// What a box answers hangs on nothing but what was done with it: the same
// once more, with another box in between, has the same answers.
func TestP2BoxesKnowNothingOfOneAnother(t *testing.T) {
	other := begin(t, 4, 4000, eachMinute, eachMinute)
	logs := []string{}
	for i := 0; i < 3; i++ {
		p := begin(t, 1, 600, "*/7 * * * * ol2 >a", eachMinute)
		for m := 50; m < 80; m += 3 {
			p.tick(t, m)
			other.tick(t, m+100*i)
		}
		logs = append(logs, p.box.Log())
		wantSame(t, other.box, other.model)
	}
	if logs[0] != logs[1] || logs[1] != logs[2] {
		t.Errorf("P2: the same calls made the logs %x", logs)
	}
}
