package bellman_test

import (
	"strings"
	"testing"

	"bellman/api"
)

// talking is a box with one slot, number 1, that has been started at the
// minute 0.
func talking(t *testing.T, steps string) pair {
	t.Helper()
	p := begin(t, 1, 4000, onNewYear+"xa3 "+steps)
	p.wantTick(t, 0, 1, api.OK)
	if _, errno := p.start(t, 1); errno != api.OK {
		t.Fatalf("P9: Start(1): %d", errno)
	}
	return p
}

func TestWhatIsHeard(t *testing.T) {
	type piece struct {
		text, said string
		step       int
	}
	const over = 0
	for _, c := range []struct {
		steps  string
		pieces []piece
	}{
		{"<ok", []piece{{"ok", "", over}}},
		{"<ok", []piece{{"o", "", 1}, {"k", "", over}}},
		{"<ok", []piece{{"o", "", 1}, {"", "", 1}, {"", "", 1}, {"k", "", over}}},
		{"<ok", []piece{{"o", "", 1}, {" k", "", 1}, {"ko", "", 1}, {"o", "", 1}, {"o", "", 1}, {"ko", "", over}}},
		{"<ok", []piece{{"OK", "", 1}, {"oK", "", 1}, {"Ok", "", 1}, {"o\x00k", "", 1}, {"\xffok\xff", "", over}}},
		{"<a", []piece{{"", "", 1}, {"b", "", 1}, {"A", "", 1}, {"a", "", over}}},
		{"<aab", []piece{{"aaab", "", over}}},
		{"<aab", []piece{{"a", "", 1}, {"a", "", 1}, {"a", "", 1}, {"b", "", over}}},
		{"<aab", []piece{{"aa", "", 1}, {"aa", "", 1}, {"ba", "", over}}},
		{"<aab", []piece{{"ab", "", 1}, {"ab", "", 1}, {"aab", "", over}}},
		{"<abab1", []piece{{"ababab", "", 1}, {"ab1", "", over}}},
		{"<abab1", []piece{{"abab", "", 1}, {"ab", "", 1}, {"1", "", over}}},
		{"<aabaaab", []piece{{"aabaabaaa", "", 1}, {"b", "", over}}},
		{"<a <a <a", []piece{{"a", "", 2}, {"b", "", 2}, {"a", "", 3}, {"aa", "", over}}},
		{"<a <a <a", []piece{{"aa", "", 3}, {"a", "", over}}},
		{"<a <a <a", []piece{{"aaaa", "", over}}},
		{"<a <b", []piece{{"ba", "", 2}, {"a", "", 2}, {"b", "", over}}},
		{"<a <b", []piece{{"b", "", 1}, {"a", "", 2}, {"b", "", over}}},
		{"<a <b", []piece{{"xaxbx", "", over}}},
		{"<aa <aa >x <aa", []piece{{"aaa", "", 2}, {"aaa", "x", over}}},
		{"<aa <aa >x <aa", []piece{{"aaaaa", "x", 4}, {"a", "", over}}},
		{"<aa <ab", []piece{{"aaab", "", over}}},
		{"<aa <ab", []piece{{"aab", "", 2}, {"ab", "", over}}},
		{"<aa <ab", []piece{{"aaba", "", 2}, {"b", "", over}}},
		{"<aba <aba", []piece{{"aba", "", 2}, {"ba", "", 2}, {"aba", "", over}}},
		{"<aba <aba", []piece{{"ababa", "", 2}, {"ba", "", over}}},
		{">q <yes <no >r <end", []piece{{"no end ye", "", 2}, {"s n", "", 3}, {"oen", "r", 5}, {"d yes", "", over}}},
		{">q <yes <no >r <end", []piece{{"yesnoend", "r", over}}},
		{"<a >b >c <d >e", []piece{{"a", "bc", 4}, {"d", "e", over}}},
		{"<a >b >c <d >e", []piece{{"ad", "bce", over}}},
		{"<a >b >c <d >e", []piece{{"da", "bc", 4}, {"b", "", 4}, {"d", "e", over}}},
		{"<a >a <a >a", []piece{{"a", "a", 3}, {"a", "a", over}}},
		{"<12345678 >y", []piece{{"1234567", "", 1}, {"8", "y", over}}},
		{"<12345678 >y", []piece{{strings.Repeat("1234567", 5) + "12345", "", 1}, {"678", "y", over}}},
		{"<12345678 >y", []piece{{"1", "", 1}, {"2", "", 1}, {"3", "", 1}, {"4", "", 1}, {"5", "", 1}, {"6", "", 1}, {"7", "", 1}, {"8", "y", over}}},
		{"<11111111 >y", []piece{{"1111", "", 1}, {"x", "", 1}, {"1111", "", 1}, {"111", "", 1}, {"x1111111", "", 1}, {"1", "y", over}}},
		{"<a <12345678", []piece{{"1234a123", "", 2}, {"45678", "", over}}},
		{"<abcdefgh <a", []piece{{"abcdefg", "", 1}, {"aabcdefgh", "", 2}, {"h", "", 2}, {"a", "", over}}},
	} {
		p := talking(t, c.steps)
		for _, piece := range c.pieces {
			length := len(p.box.Log())
			p.wantFeed(t, 1, piece.text, piece.said, api.OK)
			if piece.step == over {
				p.wantEnds(t, "1d")
				p.wantFrames(t, length, "D\x00\x01")
				p.wantFeed(t, 1, piece.text, "", api.ErrSlot)
			} else {
				p.wantStep(t, 1, piece.step)
				p.wantFrames(t, length)
			}
		}
	}
}

// Words stand anywhere in a text of 40 bytes.
func TestFortyBytes(t *testing.T) {
	for at := 0; at+8 <= 40; at++ {
		for _, fill := range []string{"x", "1", "\x00", "\xff", "\n", "8"} {
			p := talking(t, "<12345678 >y")
			text := strings.Repeat(fill, at) + "12345678" + strings.Repeat(fill, 32-at)
			p.wantFeed(t, 1, text, "y", api.OK)
		}
	}
	p := talking(t, "<12345678 >y")
	for i := 0; i < 1000; i++ {
		p.wantFeed(t, 1, strings.Repeat("1234567 ", 5), "", api.OK)
	}
	p.wantFeed(t, 1, strings.Repeat("1234567 ", 4)+" 1234567", "", api.OK)
	p.wantFeed(t, 1, "8"+strings.Repeat("x", 39), "y", api.OK)
}

func TestTooLongAText(t *testing.T) {
	p := begin(t, 1, 600, onNewYear+"xa1 <ab >c", onNewYear+"xa1 <a")
	p.wantTick(t, 0, 2, api.OK)
	p.wantStart(t, 1, "", api.OK)
	for _, length := range []int{41, 42, 80, 255, 256, 257, 296, 65536, 65576, 5000000} {
		text := strings.Repeat("a", length)
		p.wantFeed(t, 1, text, "", api.ErrLong)
		p.wantFeed(t, 2, text, "", api.ErrLong)
		for _, number := range wrongNumbers {
			p.wantFeed(t, number, text, "", api.ErrLong)
		}
	}
	// The a that was too long was not heard.
	p.wantFeed(t, 1, "b", "", api.OK)
	p.wantStep(t, 1, 1)
	p.wantFeed(t, 1, strings.Repeat("b", 38)+"ab", "c", api.OK)
}

func TestFeedOfWhatDoesNotRun(t *testing.T) {
	p := newPair(t, 1, 600)
	p.wantFeed(t, 1, "a", "", api.ErrSlot)
	p.wantLoad(t, onNewYear+"oa2 <ab\n"+onNewYear+"oa1 <b\n", api.OK)
	p.wantTick(t, 0, 2, api.OK)
	for i := 0; i < 2; i++ {
		for _, text := range []string{"", "a", "b", "ab", strings.Repeat("x", 40)} {
			for _, number := range wrongNumbers {
				p.wantFeed(t, number, text, "", api.ErrSlot)
			}
			p.wantFeed(t, 3, text, "", api.ErrSlot)
			p.wantFeed(t, 2, text, "", api.ErrState)
		}
		p.start(t, 1)
	}
	p.wantFeed(t, 1, "a", "", api.OK)
	p.wantTick(t, 3, 0, api.OK)
	p.wantFeed(t, 1, "b", "", api.ErrState)
}

// At another attempt the talk begins anew, with nothing heard.
func TestNothingHeardAtTheNextAttempt(t *testing.T) {
	p := talking(t, ">x <ab <cd")
	p.wantFeed(t, 1, "abc", "", api.OK)
	p.wantStep(t, 1, 3)
	p.wantTick(t, 3, 0, api.OK)
	p.wantTick(t, 5, 0, api.OK)
	p.wantStart(t, 1, "x", api.OK)
	p.wantFeed(t, 1, "d", "", api.OK)
	p.wantFeed(t, 1, "a", "", api.OK)
	p.wantStep(t, 1, 2)
	p.wantTick(t, 8, 0, api.OK)
	p.wantTick(t, 12, 0, api.OK)
	p.wantStart(t, 1, "x", api.OK)
	p.wantFeed(t, 1, "b", "", api.OK)
	p.wantStep(t, 1, 2)
	p.wantFeed(t, 1, "abcd", "", api.OK)
	p.wantEnds(t, "1d")
}

// What one slot hears no other one does, not of its own line either.
func TestEachSlotHearsForItself(t *testing.T) {
	p := begin(t, 4, 4000, "* * * * * oa1 <ab >y")
	for m := 1; m <= 4; m++ {
		p.wantTick(t, m, 1, api.OK)
	}
	for number := 1; number <= 4; number++ {
		p.wantStart(t, number, "", api.OK)
	}
	p.wantFeed(t, 2, "a", "", api.OK)
	p.wantFeed(t, 1, "b", "", api.OK)
	p.wantFeed(t, 3, "b", "", api.OK)
	p.wantFeed(t, 4, "a", "", api.OK)
	p.wantFeed(t, 3, "ab", "y", api.OK)
	p.wantFeed(t, 2, "b", "y", api.OK)
	p.wantCancel(t, 1, api.OK)
	p.wantFeed(t, 4, "b", "y", api.OK)
	p.wantEnds(t, "3d 2d 1k 4d")
}

// A word found with no room to be done was not found, nor heard.
func TestJustRoomToBeDone(t *testing.T) {
	for left := 0; left <= 9; left++ {
		p := lacking(t, 1, 9+left, []int{0}, onNewYear+"oa1 <ab >x <cd >y")
		p.wantStart(t, 1, "", api.OK)
		p.wantFeed(t, 1, "a", "", api.OK)
		if left == 9 {
			p.wantFeed(t, 1, "bcd", "xy", api.OK)
			p.wantEnds(t, "1d")
			continue
		}
		p.wantFeed(t, 1, "bcd", "", api.ErrRoom)
		p.wantStep(t, 1, 1)
		p.wantFeed(t, 1, "cd", "", api.OK)
		p.wantStep(t, 1, 1)
		p.wantFeed(t, 1, "abc", "x", api.OK)
		p.wantStep(t, 1, 3)
		p.wantFeed(t, 1, "d", "", api.ErrRoom)
		p.wantFeed(t, 1, "", "", api.OK)
		p.wantFeed(t, 1, "d", "", api.ErrRoom)
		p.wantFeed(t, 1, "x", "", api.OK)
		p.wantFeed(t, 1, "d", "", api.OK)
		p.wantFeed(t, 2, "d", "", api.ErrSlot)
		p.wantFeed(t, 1, strings.Repeat("cd", 21), "", api.ErrLong)
		p.wantStep(t, 1, 3)
	}
}
