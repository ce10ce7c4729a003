package bellman_test

import (
	"encoding/binary"
	"hash/crc32"
	"math"
	"sort"
	"strings"
	"testing"

	"bellman/api"
	"bellman/bellman"
)

// modelBox is what the document says of a box, once more and by other means.
type modelBox struct {
	room  int
	tab   string
	lines []modelSchedule
	clock int
	next  int
	slots []api.Slot
	ends  []api.End
	log   []byte
}

// modelSchedule: for each field which values it holds.
type modelSchedule struct {
	holds    [5][60]bool
	open     bool
	counting byte
}

func newModel(room int) *modelBox {
	return &modelBox{room: room, clock: -1, next: 1}
}

func scheduleOf(line string) modelSchedule {
	pieces := strings.Split(line, " ")
	s := modelSchedule{counting: pieces[5][1]}
	for i := range s.holds {
		s.holds[i] = modelField(pieces[i], bounds[i])
	}
	s.open = pieces[2][0] == '*' || pieces[4][0] == '*'
	return s
}

func (s *modelSchedule) due(m int) bool {
	d := libraryDate(m)
	day, weekday := s.holds[2][d.Day], s.holds[4][d.Weekday]
	days := day || weekday
	if s.open {
		days = day && weekday
	}
	return s.holds[0][d.Minute] && s.holds[1][d.Hour] && s.holds[3][d.Month] && days
}

// add puts a frame behind the log, if there is room for it.
func (x *modelBox) add(body []byte) bool {
	if len(x.log)+len(body)+6 > x.room {
		return false
	}
	x.log = binary.BigEndian.AppendUint16(x.log, uint16(len(body)))
	x.log = append(x.log, body...)
	x.log = binary.BigEndian.AppendUint32(x.log, crc32.ChecksumIEEE(body))
	return true
}

func (x *modelBox) load(tab string) (int, api.Errno) {
	if line, errno := modelCheck(tab); errno != api.OK {
		return line, errno
	}
	if len(x.slots) > 0 {
		return 0, api.ErrBusy
	}
	if !x.add([]byte("T" + tab)) {
		return 0, api.ErrRoom
	}
	x.tab = tab
	x.lines = nil
	for _, line := range strings.SplitAfter(tab, "\n") {
		if line != "" {
			x.lines = append(x.lines, scheduleOf(strings.TrimSuffix(line, "\n")))
		}
	}
	return 0, api.OK
}

// counted are the (minute, line) that count, in the order of their numbers.
func (x *modelBox) counted(m int) [][2]int {
	first := x.clock + 1
	if x.clock == -1 {
		first = m
	}
	all := [][2]int{}
	for i, line := range x.lines {
		due := [][2]int{}
		for minute := first; minute <= m; minute++ {
			if line.due(minute) && (line.counting != 'n' || minute == m) {
				due = append(due, [2]int{minute, i + 1})
			}
		}
		if line.counting == 'l' && len(due) > 1 {
			due = due[len(due)-1:]
		}
		all = append(all, due...)
	}
	sort.Slice(all, func(i, j int) bool {
		if all[i][0] != all[j][0] {
			return all[i][0] < all[j][0]
		}
		return all[i][1] < all[j][1]
	})
	return all
}

func (x *modelBox) tick(m int) (int, api.Errno) {
	if m < 0 || m > 4223371679 {
		return 0, api.ErrNumber
	}
	if m <= x.clock || x.clock != -1 && m-x.clock > 1500 {
		return 0, api.ErrClock
	}
	all := x.counted(m)
	if x.next+len(all) > 10000 {
		return 0, api.ErrIds
	}
	eight := binary.BigEndian.AppendUint64(nil, uint64(m))
	if !x.add(append([]byte("C"), eight[3:]...)) {
		return 0, api.ErrRoom
	}
	for _, c := range all {
		if len(x.slots) < 8 {
			x.slots = append(x.slots, api.Slot{Number: x.next, Line: c[1], Minute: c[0], Attempt: 1, From: c[0]})
		} else {
			x.ends = append(x.ends, api.End{Number: x.next, How: "s"})
		}
		x.next++
	}
	if len(x.ends) > 6 {
		x.ends = x.ends[len(x.ends)-6:]
	}
	x.clock = m
	return len(all), api.OK
}

// wantSame compares all that a box tells with the model.
func wantSame(t *testing.T, b *bellman.Box, x *modelBox) {
	t.Helper()
	want := api.View{Clock: x.clock, Next: x.next, Slots: len(x.slots), Ends: len(x.ends), Tab: x.tab}
	if v := b.Look(); v != want {
		t.Fatalf("P6: Look() = %+v, want %+v", v, want)
	}
	for i, slot := range x.slots {
		if s, e := b.Slot(i); s != slot || e != api.OK {
			t.Fatalf("P6: Slot(%d) = %+v, %d, want %+v", i, s, e, slot)
		}
	}
	for i, end := range x.ends {
		if s, e := b.End(i); s != end || e != api.OK {
			t.Fatalf("P6: End(%d) = %+v, %d, want %+v", i, s, e, end)
		}
	}
	wantNoMore(t, b, len(x.slots), len(x.ends))
	if log := b.Log(); log != string(x.log) {
		t.Fatalf("P7: the log is %x, want %x", log, x.log)
	}
}

// wantNoMore asks for slots and ends that are none.
func wantNoMore(t *testing.T, b *bellman.Box, slots, ends int) {
	t.Helper()
	for _, far := range []int{0, 1, 8, 9, 1 << 40, math.MaxInt - slots - ends} {
		if s, e := b.Slot(slots + far); s != (api.Slot{}) || e != api.ErrNumber {
			t.Fatalf("P6: of %d slots: Slot(%d) = %+v, %d", slots, slots+far, s, e)
		}
		if s, e := b.End(ends + far); s != (api.End{}) || e != api.ErrNumber {
			t.Fatalf("P6: of %d ends: End(%d) = %+v, %d", ends, ends+far, s, e)
		}
	}
	for _, below := range []int{-1, -2, -8, -1 << 40, math.MinInt} {
		if s, e := b.Slot(below); s != (api.Slot{}) || e != api.ErrNumber {
			t.Fatalf("P6: Slot(%d) = %+v, %d", below, s, e)
		}
		if s, e := b.End(below); s != (api.End{}) || e != api.ErrNumber {
			t.Fatalf("P6: End(%d) = %+v, %d", below, s, e)
		}
	}
}

// pair is a box and its model, to which the same is done.
type pair struct {
	box   *bellman.Box
	model *modelBox
}

func newPair(t *testing.T, limit, room int) pair {
	t.Helper()
	b, e := bellman.New(limit, room)
	if b == nil || e != api.OK {
		t.Fatalf("P5: New(%d, %d) = %v, %d", limit, room, b, e)
	}
	return pair{box: b, model: newModel(room)}
}

// load checks the answer, and that nothing but the model's doing was done.
func (p pair) load(t *testing.T, tab string) api.Errno {
	t.Helper()
	line, errno := p.model.load(tab)
	if n, e := p.box.Load(tab); n != line || e != errno {
		t.Fatalf("P7: Load(%.90q) = %d, %d, want %d, %d", tab, n, e, line, errno)
	}
	wantSame(t, p.box, p.model)
	return errno
}

func (p pair) tick(t *testing.T, m int) (int, api.Errno) {
	t.Helper()
	clock := p.model.clock
	given, errno := p.model.tick(m)
	if n, e := p.box.Tick(m); n != given || e != errno {
		t.Fatalf("P8: Tick(%d) at the clock %d with %.90q = %d, %d, want %d, %d", m, clock, p.model.tab, n, e, given, errno)
	}
	wantSame(t, p.box, p.model)
	return given, errno
}

// wantTick says beside the model what is expected.
func (p pair) wantTick(t *testing.T, m, given int, errno api.Errno) {
	t.Helper()
	n, e := p.tick(t, m)
	if n != given || e != errno {
		t.Fatalf("P8: Tick(%d) = %d, %d, want %d, %d", m, n, e, given, errno)
	}
}

func (p pair) wantLoad(t *testing.T, tab string, errno api.Errno) {
	t.Helper()
	if e := p.load(t, tab); e != errno {
		t.Fatalf("P7: Load(%.90q): %d, want %d", tab, e, errno)
	}
}

// begin: a pair with a crontab of these lines.
func begin(t *testing.T, limit, room int, lines ...string) pair {
	t.Helper()
	p := newPair(t, limit, room)
	tab := ""
	for _, line := range lines {
		tab += line + "\n"
	}
	p.wantLoad(t, tab, api.OK)
	return p
}
