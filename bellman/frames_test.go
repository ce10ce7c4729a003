package bellman_test

import (
	"encoding/binary"
	"fmt"
	"hash/crc32"
	"strings"
	"testing"

	"bellman/api"
)

// framesOf are frames with these bodies, whatever they are.
func framesOf(bodies ...string) string {
	log := []byte{}
	for _, body := range bodies {
		log = binary.BigEndian.AppendUint16(log, uint16(len(body)))
		log = append(log, body...)
		log = binary.BigEndian.AppendUint32(log, crc32.ChecksumIEEE([]byte(body)))
	}
	return string(log)
}

func clockBody(m int) string {
	eight := binary.BigEndian.AppendUint64(nil, uint64(m))
	return "C" + string(eight[3:])
}

func slotBody(letter byte, number int) string {
	return string([]byte{letter, byte(number >> 8), byte(number)})
}

// bodyOf: "S3" is the change Start of 3, "C70" the minute 70; all else is a
// body as it stands.
func bodyOf(text string) string {
	number := 0
	if n, _ := fmt.Sscanf(text, "C%d", &number); n == 1 {
		return clockBody(number)
	}
	for _, letter := range []byte("SDFK") {
		if n, _ := fmt.Sscanf(text, string(letter)+"%d", &number); n == 1 {
			return slotBody(letter, number)
		}
	}
	return text
}

// Behind a log with the slots 1 (line 1, o), 2 (line 2, x), 3 (line 1), 4
// (line 2) and 5 (line 1), at the clock 102: of some more frames the first
// ones are right.
func TestFramesThatMayBe(t *testing.T) {
	source := begin(t, 4, 4000, "* * * * * oa2 <a", "* * * * * xa1 <a")
	source.wantTick(t, 100, 2, api.OK)
	source.wantTick(t, 102, 4, api.OK)
	source.wantCancel(t, 6, api.OK)
	begun := source.box.Log()
	for _, c := range []struct {
		bodies []string
		right  int
		ends   string
	}{
		{[]string{}, 0, "6k"},
		{[]string{"S1", "S2", "S3"}, 3, "6k"},
		{[]string{"S1", "D1"}, 2, "6k 1d"},
		{[]string{"S1", "D1", "D1"}, 2, "6k 1d"},
		{[]string{"S1", "D1", "S1"}, 2, "6k 1d"},
		{[]string{"S1", "D1", "F1"}, 2, "6k 1d"},
		{[]string{"S1", "D1", "K1"}, 2, "6k 1d"},
		{[]string{"S1", "S1"}, 1, "6k"},
		{[]string{"D1"}, 0, "6k"},
		{[]string{"F1"}, 0, "6k"},
		{[]string{"S2", "S4"}, 1, "6k"},
		{[]string{"S2", "S1", "S3", "S4"}, 3, "6k"},
		{[]string{"S2", "D2", "S4"}, 3, "6k 2d"},
		{[]string{"S2", "F2", "S4"}, 3, "6k 2a"},
		{[]string{"S2", "F2", "F2"}, 2, "6k 2a"},
		{[]string{"S2", "K2", "S4"}, 3, "6k 2k"},
		{[]string{"S1", "F1", "S1"}, 2, "6k"},
		{[]string{"S1", "F1", "D1"}, 2, "6k"},
		{[]string{"S1", "F1", "F1"}, 2, "6k"},
		{[]string{"S1", "F1", "C103", "S1"}, 3, "6k"},
		{[]string{"S1", "F1", "C104", "S1", "F1"}, 5, "6k 10s 1a"},
		{[]string{"S1", "F1", "K1"}, 3, "6k 1k"},
		{[]string{"S1", "C2", "D1"}, 1, "6k"},
		{[]string{"K1", "K2", "K3", "K4", "K5"}, 5, "6k 1k 2k 3k 4k 5k"},
		{[]string{"K1", "K1"}, 1, "6k 1k"},
		{[]string{"K1", "S1"}, 1, "6k 1k"},
		{[]string{"K6"}, 0, "6k"},
		{[]string{"K7"}, 0, "6k"},
		{[]string{"K0"}, 0, "6k"},
		{[]string{"S0"}, 0, "6k"},
		{[]string{"S6"}, 0, "6k"},
		{[]string{"S7"}, 0, "6k"},
		{[]string{"S257"}, 0, "6k"},
		{[]string{"S65535"}, 0, "6k"},
		{[]string{"C103", "S7"}, 2, "6k"},
		{[]string{"C101"}, 0, "6k"},
		{[]string{"C102"}, 0, "6k"},
		{[]string{"C103"}, 1, "6k"},
		{[]string{"C103", "C103"}, 1, "6k"},
		{[]string{"C0"}, 0, "6k"},
		{[]string{"C1603"}, 0, "6k"},
		{[]string{"C4223371679"}, 0, "6k"},
		{[]string{"C4223371680"}, 0, "6k"},
		{[]string{"C1099511627775"}, 0, "6k"},
		{[]string{"T"}, 0, "6k"},
		{[]string{"K1", "K2", "K3", "K4", "K5", "T", "T* * * * * oa1 >a\n", "T"}, 8, "6k 1k 2k 3k 4k 5k"},
		{[]string{"K1", "K2", "K3", "K4", "T"}, 4, "6k 1k 2k 3k 4k"},
		{[]string{"K1", "K2", "K3", "K4", "K5", "T* * * * * oa1 >a"}, 5, "6k 1k 2k 3k 4k 5k"},
		{[]string{"K1", "K2", "K3", "K4", "K5", "T* * * * * oa0 >a\n"}, 5, "6k 1k 2k 3k 4k 5k"},
		{[]string{"K1", "K2", "K3", "K4", "K5", "T" + strings.Repeat("\n", 300)}, 5, "6k 1k 2k 3k 4k 5k"},
		{[]string{"K1", "K2", "K3", "K4", "K5", "T" + strings.Repeat("* * * * * oa1 >a\n", 4)}, 6, "6k 1k 2k 3k 4k 5k"},
		{[]string{"K1", "K2", "K3", "K4", "K5", "T" + strings.Repeat("* * * * * oa1 >a\n", 5)}, 5, "6k 1k 2k 3k 4k 5k"},
		{[]string{"", "S1"}, 0, "6k"},
		{[]string{"S"}, 0, "6k"},
		{[]string{"S\x01"}, 0, "6k"},
		{[]string{"S\x00\x00\x01"}, 0, "6k"},
		{[]string{"S\x00\x01\x00"}, 0, "6k"},
		{[]string{"K"}, 0, "6k"},
		{[]string{"K\x01"}, 0, "6k"},
		{[]string{"K\x00\x01\x00"}, 0, "6k"},
		{[]string{"S1", "D\x01"}, 1, "6k"},
		{[]string{"S1", "D\x00\x01\x00"}, 1, "6k"},
		{[]string{"S1", "F"}, 1, "6k"},
		{[]string{"S1", "F\x00\x01\x01"}, 1, "6k"},
		{[]string{"C"}, 0, "6k"},
		{[]string{"C\x00\x00\x00\x67"}, 0, "6k"},
		{[]string{"C\x00\x00\x00\x00\x00\x67"}, 0, "6k"},
		{[]string{"C\x00\x00\x00\x00\x67\x00"}, 0, "6k"},
		{[]string{"Z\x00\x00\x00\x00\x00\x00\x01\x00\x00\x00\x00"}, 0, "6k"},
	} {
		log, right := begun, len(begun)
		for i, text := range c.bodies {
			log += framesOf(bodyOf(text))
			if i < c.right {
				right = len(log)
			}
		}
		p := wantOpen(t, log, right)
		p.wantEnds(t, c.ends)
	}
}

// A jump may be of 1500 minutes, the first one from nowhere to any minute.
func TestClocksThatMayBe(t *testing.T) {
	for _, c := range []struct {
		bodies []string
		right  int
	}{
		{[]string{"C0"}, 1},
		{[]string{"C4223371679"}, 1},
		{[]string{"C4223371680"}, 0},
		{[]string{"C1099511627775"}, 0},
		{[]string{"C0", "C1500"}, 2},
		{[]string{"C0", "C1501"}, 1},
		{[]string{"C102", "C1602", "C3102"}, 3},
		{[]string{"C102", "C1603"}, 1},
		{[]string{"C102", "C101"}, 1},
		{[]string{"C4223371678", "C4223371679", "C4223371680"}, 2},
		{[]string{"C4223370179", "C4223371679"}, 2},
		{[]string{"C4223370178", "C4223371679"}, 1},
	} {
		log, right := "", 0
		for i, text := range c.bodies {
			log += framesOf(bodyOf(text))
			if i < c.right {
				right = len(log)
			}
		}
		wantOpen(t, log, right)
	}
}

// The numbers end at 9999 in a log, too.
func TestClocksForWantOfNumbers(t *testing.T) {
	for next := 9990; next <= 10000; next++ {
		for jump := 1; jump <= 12; jump++ {
			body := "Z\x00\x00\x00\x00\x65" + string([]byte{byte(next >> 8), byte(next)}) + "\x00\x11* * * * * oa1 <a\n\x00\x00"
			log := framesOf(body)
			right := len(log)
			log += framesOf(clockBody(100 + jump))
			if next+jump <= 10000 {
				right = len(log)
			}
			p := wantOpen(t, log, right)
			if next+jump <= 10000 && p.box.Look().Next != next+jump {
				t.Errorf("P13: the next number is %d, want %d", p.box.Look().Next, next+jump)
			}
		}
	}
}

// Bodies that begin with any byte, of any length up to that of a minute.
func TestOtherLetters(t *testing.T) {
	for letter := 0; letter < 256; letter++ {
		for length := 0; length <= 7; length++ {
			body := string([]byte{byte(letter)}) + "\x00\x00\x00\x00\x00\x00\x00"[:length]
			right := 0
			if letter == 'T' && length == 0 || letter == 'C' && length == 5 {
				right = len(body) + 6
			}
			wantOpen(t, framesOf(body)+"x", right)
		}
	}
}

// A frame is whole, and its check is right, to the last bit.
func TestSpoiltFrames(t *testing.T) {
	source := begin(t, 4, 4000, "* * * * * oa2 >a <b")
	source.wantTick(t, 100, 1, api.OK)
	source.wantStart(t, 1, "a", api.OK)
	ends := []int{27, 39, 48}
	log := source.box.Log()
	if len(log) != ends[2] {
		t.Fatalf("P7: a log of %d bytes", len(log))
	}
	for _, rest := range []string{"", "x", "\x00\x00", strings.Repeat("\x00", 300), framesOf("T")} {
		for at := range log {
			right := 0
			for _, end := range ends {
				if end <= at {
					right = end
				}
			}
			for bit := 0; bit < 8; bit++ {
				spoilt := []byte(log + rest)
				spoilt[at] ^= 1 << bit
				wantOpen(t, string(spoilt), right)
			}
			wantOpen(t, log[:at], right)
		}
	}
}

// The check of the change Clock to this minute is 0: a frame that lacks its
// last bytes is not whole, even if nought would be right for them.
func TestACheckOfNought(t *testing.T) {
	log := framesOf(clockBody(2751747319))
	if !strings.HasSuffix(log, "\x00\x00\x00\x00") {
		t.Fatalf("the frame is %x", log)
	}
	p := wantOpen(t, log, len(log))
	if clock := p.box.Look().Clock; clock != 2751747319 {
		t.Errorf("P13: the clock is %d", clock)
	}
	for cut := range log {
		wantOpen(t, log[:cut], 0)
	}
	for _, minute := range []int{2751747318, 2751747320} {
		other := framesOf(clockBody(minute))
		wantOpen(t, other[:len(other)-4]+"\x00\x00\x00\x00", 0)
	}
}
