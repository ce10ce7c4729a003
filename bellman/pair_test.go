package bellman_test

import (
	"encoding/hex"
	"fmt"
	"hash/crc32"
	"strconv"
	"strings"
	"testing"

	"bellman/api"
	"bellman/bellman"
)

// pair is a box and its model, to which the same is done.
type pair struct {
	box   *bellman.Box
	model *modelBox
}

func newPair(t *testing.T, limit, room int) pair {
	t.Helper()
	b, e := bellman.New(limit, room)
	if b == nil || e != api.OK {
		t.Fatalf("P5: New(%d, %d) = %v, %d", limit, room, b, e)
	}
	return pair{box: b, model: newModel(limit, room)}
}

// load checks the answer, and that nothing but the model's doing was done.
func (p pair) load(t *testing.T, tab string) api.Errno {
	t.Helper()
	line, errno := p.model.load(tab)
	if n, e := p.box.Load(tab); n != line || e != errno {
		t.Fatalf("P7: Load(%.90q) = %d, %d, want %d, %d", tab, n, e, line, errno)
	}
	wantSame(t, p.box, p.model)
	return errno
}

func (p pair) tick(t *testing.T, m int) (int, api.Errno) {
	t.Helper()
	clock := p.model.clock
	given, errno := p.model.tick(m)
	if n, e := p.box.Tick(m); n != given || e != errno {
		t.Fatalf("P8: Tick(%d) at the clock %d with %.90q = %d, %d, want %d, %d", m, clock, p.model.tab, n, e, given, errno)
	}
	wantSame(t, p.box, p.model)
	return given, errno
}

// wantTick says beside the model what is expected.
func (p pair) wantTick(t *testing.T, m, given int, errno api.Errno) {
	t.Helper()
	n, e := p.tick(t, m)
	if n != given || e != errno {
		t.Fatalf("P8: Tick(%d) = %d, %d, want %d, %d", m, n, e, given, errno)
	}
}

func (p pair) wantLoad(t *testing.T, tab string, errno api.Errno) {
	t.Helper()
	if e := p.load(t, tab); e != errno {
		t.Fatalf("P7: Load(%.90q): %d, want %d", tab, e, errno)
	}
}

func (p pair) start(t *testing.T, number int) (string, api.Errno) {
	t.Helper()
	said, errno := p.model.start(number)
	if s, e := p.box.Start(number); s != said || e != errno {
		t.Fatalf("P9: Start(%d) at the clock %d with %.90q = %q, %d, want %q, %d", number, p.model.clock, p.model.tab, s, e, said, errno)
	}
	wantSame(t, p.box, p.model)
	return said, errno
}

func (p pair) wantStart(t *testing.T, number int, said string, errno api.Errno) {
	t.Helper()
	s, e := p.start(t, number)
	if s != said || e != errno {
		t.Fatalf("P9: Start(%d) = %q, %d, want %q, %d", number, s, e, said, errno)
	}
}

func (p pair) feed(t *testing.T, number int, text string) (string, api.Errno) {
	t.Helper()
	said, errno := p.model.feed(number, text)
	if s, e := p.box.Feed(number, text); s != said || e != errno {
		t.Fatalf("P10: Feed(%d, %.50q) with %.90q = %q, %d, want %q, %d", number, text, p.model.tab, s, e, said, errno)
	}
	wantSame(t, p.box, p.model)
	return said, errno
}

func (p pair) wantFeed(t *testing.T, number int, text string, said string, errno api.Errno) {
	t.Helper()
	s, e := p.feed(t, number, text)
	if s != said || e != errno {
		t.Fatalf("P10: Feed(%d, %.50q) = %q, %d, want %q, %d", number, text, s, e, said, errno)
	}
}

func (p pair) cancel(t *testing.T, number int) api.Errno {
	t.Helper()
	errno := p.model.cancel(number)
	if e := p.box.Cancel(number); e != errno {
		t.Fatalf("P11: Cancel(%d): %d, want %d", number, e, errno)
	}
	wantSame(t, p.box, p.model)
	return errno
}

func (p pair) wantCancel(t *testing.T, number int, errno api.Errno) {
	t.Helper()
	if e := p.cancel(t, number); e != errno {
		t.Fatalf("P11: Cancel(%d): %d, want %d", number, e, errno)
	}
}

func (p pair) compact(t *testing.T) int {
	t.Helper()
	length := p.model.compact()
	if n := p.box.Compact(); n != length {
		t.Fatalf("P12: Compact() = %d, want %d", n, length)
	}
	wantSame(t, p.box, p.model)
	return length
}

// open is a box of a log, with its model, and how many bytes were right.
func open(t *testing.T, limit, room int, log string) (pair, int) {
	t.Helper()
	x, right, errno := modelOpen(limit, room, log)
	if errno != api.OK {
		t.Fatalf("the model says %d to limit %d, room %d, %d bytes", errno, limit, room, len(log))
	}
	b, n, e := bellman.Open(limit, room, log)
	if b == nil || n != right || e != api.OK {
		t.Fatalf("P13: Open(%d, %d, %x) = %v, %d, %d, want %d", limit, room, log, b, n, e, right)
	}
	wantSame(t, b, x)
	return pair{box: b, model: x}, right
}

// wantOpen opens a log of which so many bytes are right.
func wantOpen(t *testing.T, log string, right int) pair {
	t.Helper()
	p, n := open(t, 4, 4000, log)
	if n != right {
		t.Fatalf("P13: of %x %d bytes are right, want %d", log, n, right)
	}
	return p
}

// wantSlot looks for a slot by its number.
func (p pair) wantSlot(t *testing.T, want api.Slot) {
	t.Helper()
	for i := 0; i < p.box.Look().Slots; i++ {
		got, e := p.box.Slot(i)
		if e == api.OK && got.Number == want.Number {
			if got != want {
				t.Fatalf("P6: Slot(%d) = %+v, want %+v", i, got, want)
			}
			return
		}
	}
	t.Fatalf("P6: there is no slot %d", want.Number)
}

func (p pair) wantStep(t *testing.T, number, step int) {
	t.Helper()
	for i := 0; i < p.box.Look().Slots; i++ {
		got, e := p.box.Slot(i)
		if e == api.OK && got.Number == number {
			if got.Step != step {
				t.Fatalf("P6: Slot(%d) = %+v, want the step %d", i, got, step)
			}
			return
		}
	}
	t.Fatalf("P6: there is no slot %d", number)
}

// wantEnds: all the ends, such as "1d 3k".
func (p pair) wantEnds(t *testing.T, want string) {
	t.Helper()
	got := []string{}
	for i := 0; i < p.box.Look().Ends; i++ {
		end, e := p.box.End(i)
		if e != api.OK {
			t.Fatalf("P6: End(%d): %d", i, e)
		}
		got = append(got, strconv.Itoa(end.Number)+end.How)
	}
	if strings.Join(got, " ") != want {
		t.Fatalf("P6: the ends are %v, want %s", got, want)
	}
}

// wantFrames: the bodies of the frames behind the first bytes of the log.
func (p pair) wantFrames(t *testing.T, from int, bodies ...string) {
	t.Helper()
	want := ""
	for _, body := range bodies {
		want += fmt.Sprintf("%04x%x%08x", len(body), body, crc32.ChecksumIEEE([]byte(body)))
	}
	if got := hex.EncodeToString([]byte(p.box.Log()[from:])); got != want {
		t.Fatalf("P7: the log goes on with %s, want %s", got, want)
	}
}

// begin: a pair with a crontab of these lines.
func begin(t *testing.T, limit, room int, lines ...string) pair {
	t.Helper()
	p := newPair(t, limit, room)
	tab := ""
	for _, line := range lines {
		tab += line + "\n"
	}
	p.wantLoad(t, tab, api.OK)
	return p
}
