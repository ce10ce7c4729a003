package bellman_test

import (
	"encoding/hex"
	"fmt"
	"hash/crc32"
	"strings"
	"testing"

	"bellman/api"
)

// tabOf is a crontab of so many bytes, 17 or more.
func tabOf(t *testing.T, length int) string {
	t.Helper()
	more := length - 17
	tab := "*" + strings.Repeat(",1", more/2) + " * * * * xa1 >a" + strings.Repeat("b", more%2) + "\n"
	if more < 0 || len(tab) != length {
		t.Fatalf("no crontab of %d bytes", length)
	}
	return tab
}

// fill makes the log as long as asked for, by crontabs of many lengths.
func fill(t *testing.T, p pair, length int) {
	t.Helper()
	for length-len(p.model.log) > 331 {
		p.wantLoad(t, tabOf(t, 300), api.OK)
	}
	if length-len(p.model.log) > 307 {
		p.wantLoad(t, tabOf(t, 17), api.OK)
	}
	p.wantLoad(t, tabOf(t, length-len(p.model.log)-7), api.OK)
	if len(p.box.Log()) != length {
		t.Fatalf("P7: a log of %d bytes, want %d", len(p.box.Log()), length)
	}
}

func TestExample8(t *testing.T) {
	p := begin(t, 1, 600)
	want := fmt.Sprintf("000154%08x", crc32.ChecksumIEEE([]byte("T")))
	if got := hex.EncodeToString([]byte(p.box.Log())); got != want {
		t.Errorf("P7: the log is %s, want %s", got, want)
	}
}

func TestLogOfLoads(t *testing.T) {
	p := newPair(t, 2, 4000)
	want := ""
	for _, tab := range []string{rightLine, "", rightLine + rightLine, tabOf(t, 247), tabOf(t, 248), tabOf(t, 254), tabOf(t, 255), tabOf(t, 256), tabOf(t, 300), "", rightLine, rightLine} {
		p.wantLoad(t, tab, api.OK)
		want += fmt.Sprintf("%04xT%s%08x", len(tab)+1, tab, crc32.ChecksumIEEE([]byte("T"+tab)))
		log, got := p.box.Log(), ""
		for at := 0; at < len(log); {
			length := int(log[at])<<8 + int(log[at+1])
			body := log[at+2 : at+2+length]
			got += fmt.Sprintf("%x%s%x", log[at:at+2], body, log[at+2+length:at+6+length])
			at += length + 6
		}
		if got != want {
			t.Fatalf("P7: the log says %q, want %q", got, want)
		}
		if v := p.box.Look(); v != (api.View{Clock: -1, Next: 1, Tab: tab}) {
			t.Fatalf("P6, P7: behind Load(%q): %+v", tab, v)
		}
	}
}

func TestLoadTellsTheWrongLine(t *testing.T) {
	p := begin(t, 1, 600, rightLine[:17])
	for _, c := range []struct {
		tab   string
		line  int
		errno api.Errno
	}{
		{strings.Repeat("x", 301), 0, api.ErrLong},
		{strings.Repeat(rightLine, 17), 0, api.ErrLong},
		{strings.Repeat("\n", 20000000), 0, api.ErrLong},
		{strings.Repeat("\n", 5), 0, api.ErrMany},
		{strings.Repeat(rightLine, 5), 0, api.ErrMany},
		{strings.Repeat(rightLine, 4) + "x", 0, api.ErrMany},
		{"x", 1, api.ErrLine},
		{rightLine[:17], 1, api.ErrLine},
		{rightLine + "x\n", 2, api.ErrLine},
		{rightLine + rightLine + "\n" + rightLine, 3, api.ErrLine},
		{strings.Repeat(rightLine, 3) + rightLine[:17], 4, api.ErrLine},
	} {
		if n, e := p.box.Load(c.tab); n != c.line || e != c.errno {
			t.Errorf("P7: Load(%.40q) = %d, %d, want %d, %d", c.tab, n, e, c.line, c.errno)
		}
		wantSame(t, p.box, p.model)
	}
}

func TestLoadWithSlots(t *testing.T) {
	p := begin(t, 1, 600, "* * * * * oa1 >a")
	p.wantTick(t, 5, 1, api.OK)
	p.wantLoad(t, "", api.ErrBusy)
	p.wantLoad(t, rightLine, api.ErrBusy)
	p.wantLoad(t, p.model.tab, api.ErrBusy)
	p.wantLoad(t, strings.Repeat("x", 301), api.ErrLong)
	p.wantLoad(t, "\n\n\n\n\n", api.ErrMany)
	p.wantLoad(t, rightLine+"x", api.ErrLine)
}

func TestLoadBehindTicks(t *testing.T) {
	p := begin(t, 1, 600, "0 0 1 1 * oa1 >a")
	p.wantTick(t, 5, 0, api.OK)
	p.wantLoad(t, "7 * * * * oa1 >a\n", api.OK)
	p.wantTick(t, 6, 0, api.OK)
	p.wantLoad(t, "", api.OK)
	p.wantTick(t, 100, 0, api.OK)
	p.wantLoad(t, "* * * * * oa1 >a\n", api.OK)
	p.wantTick(t, 102, 2, api.OK)
}

func TestBusyComesBeforeRoom(t *testing.T) {
	p := newPair(t, 1, 600)
	fill(t, p, 588)
	p.wantTick(t, 1, 1, api.OK)
	p.wantLoad(t, "", api.ErrBusy)
	p.wantLoad(t, "x", api.ErrLine)
}

func TestJustRoomForATab(t *testing.T) {
	for _, room := range []int{600, 601, 1234, 3999, 4000} {
		for _, length := range []int{0, 17, 18, 248, 249, 300} {
			tab := ""
			if length > 0 {
				tab = tabOf(t, length)
			}
			just := newPair(t, 4, room)
			fill(t, just, room-length-7)
			just.wantLoad(t, tab, api.OK)
			if len(just.box.Log()) != room {
				t.Fatalf("P7: the log has %d bytes, not %d", len(just.box.Log()), room)
			}
			just.wantLoad(t, "", api.ErrRoom)
			lacking := newPair(t, 4, room)
			fill(t, lacking, room-length-6)
			lacking.wantLoad(t, tab, api.ErrRoom)
			lacking.wantLoad(t, "x", api.ErrLine)
			lacking.wantLoad(t, strings.Repeat("x", 301), api.ErrLong)
		}
	}
}
