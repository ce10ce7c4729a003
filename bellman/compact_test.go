package bellman_test

import (
	"encoding/hex"
	"fmt"
	"hash/crc32"
	"strings"
	"testing"

	"bellman/api"
)

// wantWhole: the log is one frame with this body, in hexadecimal.
func wantWhole(t *testing.T, p pair, body ...string) {
	t.Helper()
	text, err := hex.DecodeString(strings.ReplaceAll(strings.Join(body, ""), " ", ""))
	if err != nil {
		t.Fatal(err)
	}
	want := fmt.Sprintf("%04x%x%08x", len(text), text, crc32.ChecksumIEEE(text))
	if got := hex.EncodeToString([]byte(p.box.Log())); got != want {
		t.Fatalf("P12, P13: the log is %s, want %s", got, want)
	}
}

func TestCompactOfANewBox(t *testing.T) {
	p := newPair(t, 1, 600)
	for i := 0; i < 3; i++ {
		if n := p.compact(t); n != 18 {
			t.Errorf("P12: Compact() = %d", n)
		}
		wantWhole(t, p, "5a 0000000000 0001 0000 00 00")
	}
	p.wantLoad(t, onNewYear+"oa1 >a\n", api.OK)
	p.wantTick(t, 0, 1, api.OK)
	p.wantStart(t, 1, "a", api.OK)
}

// All that a state has, by its bytes.
func TestCompactByItsBytes(t *testing.T) {
	line := "59 23 31 12 * xa3 >a <b"
	p := begin(t, 2, 4000, "0 0 * * * oa1 <c", line)
	wantBody := func(rest string) {
		t.Helper()
		if n := p.compact(t); n != len(p.box.Log()) {
			t.Fatalf("P12: Compact() = %d, of a log of %d", n, len(p.box.Log()))
		}
		tab := fmt.Sprintf("%04x%x", len(p.model.tab), p.model.tab)
		wantWhole(t, p, "5a", strings.Replace(rest, "TAB", tab, 1))
	}
	wantBody("0000000000 0001 TAB 00 00")
	last := 4223371679 - 12
	p.wantTick(t, last-1439, 0, api.OK)
	wantBody("00fbbb83f5 0001 TAB 00 00")
	p.wantTick(t, last, 1, api.OK)
	wantBody("00fbbb8994 0002 TAB 01 0001 01 00fbbb8400 01 00fbbb8400 00 00")
	p.wantStart(t, 1, "", api.OK)
	wantBody("00fbbb8994 0002 TAB 01 0001 01 00fbbb8400 01 00fbbb8400 01 00")
	p.wantFeed(t, 1, "c", "", api.OK)
	wantBody("00fbbb8994 0002 TAB 00 01 000164")
	p.wantTick(t, 4223371679, 1, api.OK)
	wantBody("00fbbb89a0 0003 TAB 01 0002 02 00fbbb899f 01 00fbbb899f 00 01 000164")
	p.wantCancel(t, 2, api.OK)
	wantBody("00fbbb89a0 0003 TAB 00 02 000164 00026b")
	p.wantLoad(t, "", api.OK)
	wantBody("00fbbb89a0 0003 0000 00 02 000164 00026b")
}

// The ends of all kinds, in the order in which they ended, and a slot at a
// later attempt.
func TestCompactOfAllEnds(t *testing.T) {
	p := begin(t, 4, 4000, "* 0 1 1 * oa2 <a", "0 0 1 1 * xa1 <a")
	p.wantTick(t, 0, 2, api.OK)
	p.wantStart(t, 1, "", api.OK)
	p.wantStart(t, 2, "", api.OK)
	p.wantTick(t, 8, 8, api.OK)
	p.wantCancel(t, 8, api.OK)
	p.wantStart(t, 5, "", api.OK)
	p.wantFeed(t, 5, "a", "", api.OK)
	p.wantEnds(t, "9s 10s 2a 8k 5d")
	p.compact(t)
	tab := fmt.Sprintf("%04x%x", len(p.model.tab), p.model.tab)
	wantWhole(t, p, "5a 0000000009 000b", tab, "05",
		"0001 01 0000000000 02 000000000a 00",
		"0003 01 0000000001 01 0000000001 00",
		"0004 01 0000000002 01 0000000002 00",
		"0006 01 0000000004 01 0000000004 00",
		"0007 01 0000000005 01 0000000005 00",
		"05 000973 000a73 000261 00086b 000564")
}

// The greatest state has 456 bytes, less than the least room.
func TestTheLongestState(t *testing.T) {
	short := "* * * * * oa5 >12345678 >12345678 >12345678 >12345678 <a"
	long := "00" + strings.Repeat(",0", 120) + "," + short
	if len(long) != 299 {
		t.Fatalf("a line of %d bytes", len(long))
	}
	p := begin(t, 4, 600, long)
	p.wantTick(t, 100, 1, api.OK)
	p.wantTick(t, 114, 14, api.OK)
	for number := 1; number <= 4; number++ {
		p.wantStart(t, number, "12345678123456781234567812345678", api.OK)
	}
	for i := 0; i < 3; i++ {
		if n := p.compact(t); n != 456 {
			t.Errorf("P12: Compact() = %d, want 456", n)
		}
		p.wantTick(t, 115+i, 1, api.OK)
	}
	p.compact(t)
	p.tick(t, 120)
	opened := wantOpen(t, p.box.Log(), len(p.box.Log()))
	if n := len(opened.box.Log()); n != 456 {
		t.Errorf("P13: a log of %d bytes, want 456", n)
	}
}

func TestCompactMakesRoom(t *testing.T) {
	p := lacking(t, 1, 17, []int{0}, onNewYear+"oa1 >a")
	p.wantStart(t, 1, "", api.ErrRoom)
	length := p.compact(t)
	p.wantStart(t, 1, "a", api.OK)
	p.wantFrames(t, length, "S\x00\x01", "D\x00\x01")
	p.wantEnds(t, "1d")
}

// Behind Compact as much fits as the room leaves, to the byte.
func TestRoomBehindCompact(t *testing.T) {
	for room := 600; room < 612; room++ {
		p := begin(t, 1, room, onNewYear+"oa1 <a")
		p.wantTick(t, 0, 1, api.OK)
		p.compact(t)
		for m := 1; len(p.box.Log())+12 <= room; m++ {
			p.wantTick(t, m, 0, api.OK)
		}
		p.wantTick(t, 1000, 0, api.ErrRoom)
		if len(p.box.Log())+9 <= room {
			p.wantCancel(t, 1, api.OK)
		} else {
			p.wantCancel(t, 1, api.ErrRoom)
		}
	}
}

func TestCompactKeepsTheTalk(t *testing.T) {
	p := talking(t, ">x <ok <no >y")
	p.compact(t)
	p.wantStep(t, 1, 2)
	p.wantFeed(t, 1, "o", "", api.OK)
	p.compact(t)
	p.wantFeed(t, 1, "k n", "", api.OK)
	p.compact(t)
	p.wantStep(t, 1, 3)
	p.wantStart(t, 1, "", api.ErrState)
	length := p.compact(t)
	p.wantFeed(t, 1, "o", "y", api.OK)
	p.wantFrames(t, length, "D\x00\x01")
	p.compact(t)
	p.wantEnds(t, "1d")
}

// Since when a slot was not answered stays, too.
func TestCompactIsNoAnswer(t *testing.T) {
	for found := 1; found <= 2; found++ {
		p := talking(t, "<a <b")
		p.wantTick(t, found, 0, api.OK)
		p.compact(t)
		p.wantFeed(t, 1, "a", "", api.OK)
		p.compact(t)
		p.wantTick(t, found+2, 0, api.OK)
		p.compact(t)
		p.wantStep(t, 1, 2)
		length := len(p.box.Log())
		p.wantTick(t, found+3, 0, api.OK)
		p.wantFrames(t, length, string([]byte{'C', 0, 0, 0, 0, byte(found + 3)}), "F\x00\x01")
		p.wantStep(t, 1, 0)
		p.compact(t)
		p.wantStart(t, 1, "", api.ErrEarly)
	}
}

// Limits and locks stay.
func TestCompactKeepsWhatRuns(t *testing.T) {
	p := begin(t, 2, 4000, "0-3 0 1 1 * xa1 <a", "0-3 0 1 1 * oa1 <a")
	p.wantTick(t, 0, 2, api.OK)
	p.wantTick(t, 2, 4, api.OK)
	p.wantStart(t, 1, "", api.OK)
	p.compact(t)
	p.wantStart(t, 3, "", api.ErrLock)
	p.wantStart(t, 2, "", api.OK)
	p.compact(t)
	p.wantStart(t, 4, "", api.ErrLimit)
	p.wantLoad(t, "", api.ErrBusy)
}

// A word that was found in a call for which there was no room is not found,
// and is no answer: with room made, the slot is where it was.
func TestARefusedFeedWasNotHeard(t *testing.T) {
	for left := 0; left < 9; left++ {
		p := lacking(t, 1, 9+12+left, []int{0}, onNewYear+"oa2 <ab >c")
		p.wantStart(t, 1, "", api.OK)
		p.wantFeed(t, 1, "a", "", api.OK)
		p.wantTick(t, 2, 0, api.OK)
		p.wantFeed(t, 1, "b", "", api.ErrRoom)
		p.compact(t)
		p.wantStep(t, 1, 1)
		p.wantFeed(t, 1, "xb", "", api.OK)
		p.wantTick(t, 3, 0, api.OK)
		p.wantSlot(t, api.Slot{Number: 1, Line: 1, Attempt: 2, From: 5})
	}
	p := lacking(t, 1, 9+8, []int{0}, onNewYear+"oa2 <ab >c")
	p.wantStart(t, 1, "", api.OK)
	p.wantFeed(t, 1, "a", "", api.OK)
	p.wantFeed(t, 1, "b", "", api.ErrRoom)
	p.compact(t)
	p.wantFeed(t, 1, "b", "c", api.OK)
}

// What is refused for want of room is done as soon as there is some.
func TestRefusedThenCompactThenDone(t *testing.T) {
	p := lacking(t, 1, 9+11, []int{0}, "* 0 1 1 * oa2 <a")
	p.wantStart(t, 1, "", api.OK)
	p.wantTick(t, 3, 0, api.ErrRoom)
	p.wantStep(t, 1, 1)
	p.compact(t)
	p.wantStep(t, 1, 1)
	p.wantTick(t, 3, 3, api.OK)
	p.wantSlot(t, api.Slot{Number: 1, Line: 1, Attempt: 2, From: 5})
	p = lacking(t, 1, 8, []int{0}, "* 0 1 1 * oa2 <a")
	p.wantCancel(t, 1, api.ErrRoom)
	p.compact(t)
	p.wantCancel(t, 1, api.OK)
	p = lacking(t, 1, 6, []int{0}, "0 1 1 1 * oa2 <a")
	p.wantLoad(t, "", api.ErrRoom)
	p.compact(t)
	p.wantLoad(t, "", api.OK)
}
