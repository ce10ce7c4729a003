package bellman_test

import (
	"math"
	"math/rand"
	"strings"
	"testing"

	"bellman/api"
	"bellman/bellman"
)

// answers are what the plain functions said to one set of arguments.
type answers struct {
	date      api.Date
	dateErr   api.Errno
	minute    int
	minuteErr api.Errno
	line      int
	checkErr  api.Errno
	due       bool
	dueErr    api.Errno
	sum       int
}

type arguments struct {
	m, line int
	date    api.Date
	tab     string
}

func ask(g arguments) answers {
	a := answers{}
	a.date, a.dateErr = bellman.Date(g.m)
	a.minute, a.minuteErr = bellman.Minute(g.date)
	a.line, a.checkErr = bellman.Check(g.tab)
	a.due, a.dueErr = bellman.Due(g.tab, g.line, g.m)
	a.sum = bellman.Sum(g.tab)
	return a
}

func randomNumber(random *rand.Rand) int {
	edges := []int{math.MinInt, math.MinInt + 1, -1, 0, 1, 2, 4, 5, 12, 31, 59, 60, 1970, 9999, api.MaxMinute, api.MaxMinute + 1, math.MaxInt - 1, math.MaxInt}
	switch random.Intn(3) {
	case 0:
		return edges[random.Intn(len(edges))]
	case 1:
		return random.Intn(api.MaxMinute + 1)
	}
	return int(random.Uint64())
}

func randomText(random *rand.Rand) string {
	switch random.Intn(4) {
	case 0:
		return strings.Repeat(rightLine, random.Intn(19))
	case 1:
		units := []string{"\n", " ", "*", "1", ",", "-", "/", ">", "\x00", "\xff", "* ", "*\n", rightLine}
		return strings.Repeat(units[random.Intn(len(units))], random.Intn(400))
	case 2:
		cut := rightLine + "0-59/20 00 1,15-20/2,*/9 12 0-6 ol5 <A >b <12345678\n" + rightLine
		return cut[:random.Intn(len(cut)+1)]
	}
	text := make([]byte, random.Intn(400))
	for i := range text {
		text[i] = byte(random.Intn(256))
	}
	return string(text)
}

func randomArguments(random *rand.Rand) arguments {
	d := api.Date{Year: randomNumber(random), Month: randomNumber(random), Day: randomNumber(random), Hour: randomNumber(random), Minute: randomNumber(random), Weekday: randomNumber(random)}
	return arguments{m: randomNumber(random), line: randomNumber(random), date: d, tab: randomText(random)}
}

func TestP1NothingBesideAnError(t *testing.T) {
	random := rand.New(rand.NewSource(3))
	for round := 0; round < 50000; round++ {
		g := randomArguments(random)
		a := ask(g)
		line, errno := modelCheck(g.tab)
		switch {
		case a.dateErr != api.OK && a.date != (api.Date{}):
			t.Fatalf("P1: Date(%d) = %+v, %d", g.m, a.date, a.dateErr)
		case a.minuteErr != api.OK && a.minute != 0:
			t.Fatalf("P1: Minute(%+v) = %d, %d", g.date, a.minute, a.minuteErr)
		case a.line != line || a.checkErr != errno:
			t.Fatalf("P1, P4: Check(%q) = %d, %d, want %d, %d", g.tab, a.line, a.checkErr, line, errno)
		case a.dueErr != api.OK && a.due:
			t.Fatalf("P1: Due(%q, %d, %d) = true, %d", g.tab, g.line, g.m, a.dueErr)
		case errno != api.OK && a.dueErr != errno:
			t.Fatalf("P1, P4: Due(%q, %d, %d): %d, want %d", g.tab, g.line, g.m, a.dueErr, errno)
		}
	}
}

func TestP2OnlyTheArgumentsMatter(t *testing.T) {
	random := rand.New(rand.NewSource(4))
	asked := make([]arguments, 3000)
	first := make([]answers, len(asked))
	for i := range asked {
		asked[i] = randomArguments(random)
		first[i] = ask(asked[i])
	}
	for round := 0; round < 5*len(asked); round++ {
		i := random.Intn(len(asked))
		if again := ask(asked[i]); again != first[i] {
			t.Fatalf("P2: %+v: first %+v, then %+v", asked[i], first[i], again)
		}
	}
}
