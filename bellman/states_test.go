package bellman_test

import (
	"strings"
	"testing"

	"bellman/api"
)

// someState is a state of all kinds of slots and ends that may be. The clock
// is 1000, the next number 300.
func someState() *modelBox {
	x := newModel(4, 4000)
	x.keep("* * * * * oa5 >a <b\n* * * * * xa3 <c\n* * * * * ol1 >d <e\n")
	x.clock = 1000
	x.next = 300
	x.slots = []api.Slot{
		{Number: 2, Line: 1, Minute: 990, Attempt: 1, From: 990, Step: 1},
		{Number: 5, Line: 2, Minute: 991, Attempt: 3, From: 1010},
		{Number: 6, Line: 2, Minute: 991, Attempt: 2, From: 1000, Step: 1},
		{Number: 8, Line: 1, Minute: 1000, Attempt: 5, From: 1001},
		{Number: 258, Line: 1, Minute: 0, Attempt: 5, From: 1, Step: 1},
		{Number: 299, Line: 3, Minute: 1000, Attempt: 1, From: 1000},
	}
	x.ends = []api.End{{Number: 7, How: "s"}, {Number: 1, How: "d"}, {Number: 298, How: "a"}, {Number: 257, How: "k"}, {Number: 3, How: "d"}, {Number: 4, How: "d"}}
	return x
}

func wantState(t *testing.T, body string, right bool, what string) {
	t.Helper()
	log := framesOf(body)
	bytes := 0
	if right {
		bytes = len(log)
	}
	if _, n := open(t, 4, 4000, log+framesOf("T\n")); n != bytes {
		t.Errorf("P13: %s: %d bytes are right, want %d", what, n, bytes)
	}
}

// numberCases: what a number of a state may be, and what not.
type numberCases struct {
	what  string
	place func(x *modelBox) *int
	may   []int
	not   []int
}

// Each number of a state at its edges, the others being as they were.
func TestNumbersOfAState(t *testing.T) {
	slot := func(i int) func(x *modelBox) *api.Slot { return func(x *modelBox) *api.Slot { return &x.slots[i] } }
	number := func(i int) func(x *modelBox) *int { return func(x *modelBox) *int { return &slot(i)(x).Number } }
	line := func(i int) func(x *modelBox) *int { return func(x *modelBox) *int { return &slot(i)(x).Line } }
	minute := func(i int) func(x *modelBox) *int { return func(x *modelBox) *int { return &slot(i)(x).Minute } }
	attempt := func(i int) func(x *modelBox) *int { return func(x *modelBox) *int { return &slot(i)(x).Attempt } }
	from := func(i int) func(x *modelBox) *int { return func(x *modelBox) *int { return &slot(i)(x).From } }
	step := func(i int) func(x *modelBox) *int { return func(x *modelBox) *int { return &slot(i)(x).Step } }
	end := func(i int) func(x *modelBox) *int { return func(x *modelBox) *int { return &x.ends[i].Number } }
	for _, c := range []numberCases{
		{"the clock", func(x *modelBox) *int { return &x.clock }, []int{1000, 1001, 5000, 4223371678, 4223371679}, []int{-1, 0, 989, 999, 4223371680, 1<<40 - 2}},
		{"the next number", func(x *modelBox) *int { return &x.next }, []int{300, 301, 512, 9999, 10000}, []int{0, 1, 2, 298, 299, 10001, 65535}},
		{"the first slot's number", number(0), []int{2}, []int{0, 1, 3, 4, 5, 6, 7, 300, 65535}},
		{"a slot's number", number(3), []int{8, 9, 256}, []int{0, 1, 2, 5, 6, 7, 257, 258, 259, 299, 300}},
		{"the last slot's number", number(5), []int{259, 260, 297, 299}, []int{0, 1, 3, 4, 257, 258, 298, 300, 301, 512, 65535}},
		{"a line at attempt 5", line(3), []int{1}, []int{0, 2, 3, 4, 5, 255}},
		{"a line at attempt 3", line(1), []int{1, 2}, []int{0, 3, 4, 255}},
		{"a line at attempt 1", line(5), []int{1, 2, 3}, []int{0, 4, 5, 128, 255}},
		{"a minute at attempt 2", minute(2), []int{0, 1, 989, 999}, []int{1000, 1001, 1<<40 - 1}},
		{"a minute at attempt 3", minute(1), []int{0, 999, 1000}, []int{1001, 1009, 1010, 1011, 4223371680}},
		{"a minute at attempt 1", minute(0), []int{990}, []int{0, 989, 991, 1000}},
		{"an attempt of 5", attempt(3), []int{2, 3, 4, 5}, []int{0, 1, 6, 255}},
		{"an attempt of 3", attempt(1), []int{2, 3}, []int{0, 1, 4, 5, 255}},
		{"an attempt of 1", attempt(5), []int{1}, []int{0, 2, 3, 255}},
		{"an attempt of 5 that is the first", attempt(0), []int{1}, []int{0, 2, 3, 4, 5, 6}},
		{"from at attempt 1", from(0), []int{990}, []int{0, 989, 991, 1000}},
		{"from at attempt 1 and the clock", from(5), []int{1000}, []int{999, 1001, 1010}},
		{"from at attempt 3", from(1), []int{992, 993, 1000, 1001, 1009, 1010}, []int{0, 990, 991, 1011, 1012, 4223371679, 1<<40 - 1}},
		{"from at attempt 5 and the clock", from(3), []int{1001, 1010}, []int{0, 999, 1000, 1011}},
		{"from of one that runs", from(2), []int{992, 999, 1000}, []int{990, 991, 1001, 1010, 1011}},
		{"whether it runs", step(0), []int{0, 1}, nil},
		{"whether it runs too early", step(3), []int{0}, []int{1}},
		{"whether it runs beside another", step(1), []int{0}, []int{1}},
		{"whether it runs at the clock's minute", step(5), []int{0, 1}, nil},
		{"the first end's number", end(0), []int{7, 9, 256, 259, 297}, []int{0, 1, 2, 3, 4, 5, 6, 8, 257, 258, 298, 299, 300, 65535}},
		{"the last end's number", end(5), []int{4, 10, 297}, []int{0, 1, 2, 3, 5, 6, 7, 8, 257, 258, 298, 299, 300, 512}},
	} {
		for _, number := range c.may {
			x := someState()
			*c.place(x) = number
			wantState(t, string(x.whole()), true, c.what)
		}
		for _, number := range c.not {
			x := someState()
			*c.place(x) = number
			wantState(t, string(x.whole()), false, c.what)
		}
	}
}

// With no slots the clock and the next number are free.
func TestStatesWithoutSlots(t *testing.T) {
	for _, clock := range []int{-1, 0, 1, 4223371679} {
		for _, next := range []int{1, 2, 10000} {
			x := newModel(4, 4000)
			x.clock, x.next = clock, next
			wantState(t, string(x.whole()), true, "no slots")
			for _, number := range []int{1, next - 1, next} {
				x.ends = []api.End{{Number: number, How: "k"}}
				wantState(t, string(x.whole()), number >= 1 && number < next, "an end and no slot")
			}
		}
	}
	for _, clock := range []int{4223371680, 1<<40 - 2} {
		x := newModel(4, 4000)
		x.clock = clock
		wantState(t, string(x.whole()), false, "a clock beyond the last minute")
	}
	for _, next := range []int{0, 10001, 65535} {
		x := newModel(4, 4000)
		x.next = next
		wantState(t, string(x.whole()), false, "a next number that is none")
	}
}

func TestTabsOfAState(t *testing.T) {
	line := "* * * * * oa1 >a\n"
	long := strings.Repeat("0,", 141) + "00 * * * * oa1 >a\n"
	if len(long) != 300 {
		t.Fatalf("a crontab of %d bytes", len(long))
	}
	for _, c := range []struct {
		tab   string
		right bool
	}{
		{"", true}, {line, true}, {strings.Repeat(line, 4), true}, {long[1:], false}, {long, true}, {"0" + long, false},
		{strings.Repeat(line, 5), false}, {line[:len(line)-1], false}, {"\n", false}, {"x", false}, {line + "x", false}, {"60" + line[1:], false}, {line + "\x00", false},
		{strings.Repeat("x", 301), false}, {strings.Repeat("\n", 3000), false},
	} {
		x := newModel(4, 4000)
		x.tab = c.tab
		wantState(t, string(x.whole()), c.right, c.tab)
	}
}

func TestHowManyOfAState(t *testing.T) {
	for slots := 0; slots <= 12; slots++ {
		for ends := 0; ends <= 9; ends++ {
			x := newModel(4, 4000)
			x.keep("* * * * * oa5 >a <b\n")
			x.clock = 10
			x.next = 100
			for i := 0; i < slots; i++ {
				x.slots = append(x.slots, api.Slot{Number: 1 + i, Line: 1, Minute: i % 10, Attempt: 1, From: i % 10})
			}
			for i := 0; i < ends; i++ {
				x.ends = append(x.ends, api.End{Number: 99 - i, How: "daks"[i%4 : i%4+1]})
			}
			body := x.whole()
			wantState(t, string(body), slots <= 8 && ends <= 6, "how many slots and ends")
			// Other counts than there are slots and ends.
			count := 1 + 5 + 2 + 2 + len(x.tab)
			for _, other := range []int{0, 1, 2, 7, 8, 9, 255} {
				if other != slots {
					wrong := []byte(string(body))
					wrong[count] = byte(other)
					_, why := stateOf(string(wrong))
					wantState(t, string(wrong), why == "", "another count of slots")
				}
				if other != ends {
					wrong := []byte(string(body))
					wrong[count+1+15*slots] = byte(other)
					wantState(t, string(wrong), false, "another count of ends")
				}
			}
		}
	}
}

func TestWaysToEndOfAState(t *testing.T) {
	x := newModel(4, 4000)
	x.next = 2
	for how := 0; how < 256; how++ {
		x.ends = []api.End{{Number: 1, How: string([]byte{byte(how)})}}
		wantState(t, string(x.whole()), how == 'd' || how == 'a' || how == 'k' || how == 's', "a way to end")
	}
}

func TestMarksOfAState(t *testing.T) {
	x := newModel(4, 4000)
	x.keep("* * * * * oa5 >a <b\n")
	x.clock, x.next = 10, 2
	x.slots = []api.Slot{{Number: 1, Line: 1, Minute: 9, Attempt: 1, From: 9}}
	body := x.whole()
	for mark := 0; mark < 256; mark++ {
		body[len(body)-2] = byte(mark)
		wantState(t, string(body), mark < 2, "the mark of a slot that runs or waits")
	}
}

// A state that is too short or too long is none, though its check is right.
func TestStatesOfOtherLengths(t *testing.T) {
	for _, x := range []*modelBox{someState(), newModel(4, 4000)} {
		body := string(x.whole())
		wantState(t, body, true, "a state")
		for length := 1; length < len(body); length++ {
			wantState(t, body[:length], false, "a state that is cut")
		}
		for _, more := range []string{"\x00", "\x01", "\n", "x", "\x00\x00\x00", body, strings.Repeat("\x00", 300)} {
			wantState(t, body+more, false, "a state with something behind it")
		}
	}
}

// A whole state stands at the beginning alone: even the very state that the
// frames before it tell is not right behind them.
func TestAStateBehindAnotherFrame(t *testing.T) {
	first := framesOf(string(newModel(4, 4000).whole()))
	whole := framesOf(string(someState().whole()))
	wantOpen(t, first+first, len(first))
	wantOpen(t, whole+whole, len(whole))
	wantOpen(t, whole+first, len(whole))
	wantOpen(t, first+whole, len(first))
	wantOpen(t, framesOf("T")+first, 7)
	wantOpen(t, framesOf("T")+whole, 7)
	wantOpen(t, framesOf("T", "Z")+whole, 7)
	wantOpen(t, "x"+whole, 0)
	wantOpen(t, framesOf("")+whole, 0)
}

// Behind a whole state the changes go on from it.
func TestChangesBehindAState(t *testing.T) {
	whole := framesOf(string(someState().whole()))
	for _, c := range []struct {
		bodies []string
		right  int
	}{
		{[]string{"D2", "D258", "D6"}, 3},
		{[]string{"F2", "F6", "F258"}, 3},
		{[]string{"S2"}, 0},
		{[]string{"S5"}, 0},
		{[]string{"S8"}, 0},
		{[]string{"S299", "D299"}, 2},
		{[]string{"C1010", "S5"}, 1},
		{[]string{"D6", "C1010", "S5"}, 3},
		{[]string{"D6", "C1009", "S5"}, 2},
		{[]string{"C1001", "S8"}, 2},
		{[]string{"T"}, 0},
		{[]string{"K2", "K5", "K6", "K8", "K258", "K299", "T"}, 7},
		{[]string{"C2500"}, 1},
		{[]string{"C2501"}, 0},
		{[]string{"C1000"}, 0},
		{[]string{"K7"}, 0},
		{[]string{"K300"}, 0},
		{[]string{"C1001", "K300"}, 2},
	} {
		log, right := whole, len(whole)
		for i, text := range c.bodies {
			log += framesOf(bodyOf(text))
			if i < c.right {
				right = len(log)
			}
		}
		wantOpen(t, log, right)
	}
}
