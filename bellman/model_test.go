package bellman_test

import (
	"encoding/binary"
	"hash/crc32"
	"maps"
	"math"
	"slices"
	"sort"
	"strings"
	"testing"

	"bellman/api"
	"bellman/bellman"
)

// modelBox is what the document says of a box, once more and by other means.
type modelBox struct {
	limit int
	room  int
	tab   string
	lines []modelJob
	clock int
	next  int
	slots []api.Slot
	talks map[int]modelTalk
	ends  []api.End
	log   []byte
	marks []mark
}

// modelJob: for each field which values it holds; the options; the steps.
type modelJob struct {
	holds    [5][60]bool
	open     bool
	alone    bool
	counting byte
	attempts int
	steps    []string
}

func newModel(limit, room int) *modelBox {
	return &modelBox{limit: limit, room: room, clock: -1, next: 1, talks: map[int]modelTalk{}}
}

func jobOf(text string) modelJob {
	pieces := strings.Split(text, " ")
	s := modelJob{alone: pieces[5][0] == 'x', counting: pieces[5][1], attempts: int(pieces[5][2]) - '0', steps: pieces[6:]}
	for i := range s.holds {
		s.holds[i] = modelField(pieces[i], bounds[i])
	}
	s.open = pieces[2][0] == '*' || pieces[4][0] == '*'
	return s
}

func (s *modelJob) due(m int) bool {
	d := libraryDate(m)
	day, weekday := s.holds[2][d.Day], s.holds[4][d.Weekday]
	days := day || weekday
	if s.open {
		days = day && weekday
	}
	return s.holds[0][d.Minute] && s.holds[1][d.Hour] && s.holds[3][d.Month] && days
}

// frame puts a frame behind the log, room or not.
func (x *modelBox) frame(body []byte) {
	x.log = binary.BigEndian.AppendUint16(x.log, uint16(len(body)))
	x.log = append(x.log, body...)
	x.log = binary.BigEndian.AppendUint32(x.log, crc32.ChecksumIEEE(body))
}

// ifRoom does something, and if the log is too long then, nothing was done.
func (x *modelBox) ifRoom(something func()) api.Errno {
	x.marks = nil
	before := *x
	before.slots = slices.Clone(x.slots)
	before.ends = slices.Clone(x.ends)
	before.log = slices.Clone(x.log)
	before.talks = maps.Clone(x.talks)
	something()
	if len(x.log) > x.room {
		*x = before
		return api.ErrRoom
	}
	return api.OK
}

func (x *modelBox) load(tab string) (int, api.Errno) {
	if line, errno := modelCheck(tab); errno != api.OK {
		return line, errno
	}
	if len(x.slots) > 0 {
		return 0, api.ErrBusy
	}
	return 0, x.ifRoom(func() {
		x.frame([]byte("T" + tab))
		x.keep(tab)
		x.mark()
	})
}

func (x *modelBox) keep(tab string) {
	x.tab = tab
	x.lines = nil
	for _, line := range strings.SplitAfter(tab, "\n") {
		if line != "" {
			x.lines = append(x.lines, jobOf(strings.TrimSuffix(line, "\n")))
		}
	}
}

// counted are the (minute, line) that count, in the order of their numbers.
func (x *modelBox) counted(m int) [][2]int {
	first := x.clock + 1
	if x.clock == -1 {
		first = m
	}
	all := [][2]int{}
	for i, line := range x.lines {
		due := [][2]int{}
		for minute := first; minute <= m; minute++ {
			if line.due(minute) && (line.counting != 'n' || minute == m) {
				due = append(due, [2]int{minute, i + 1})
			}
		}
		if line.counting == 'l' && len(due) > 1 {
			due = due[len(due)-1:]
		}
		all = append(all, due...)
	}
	sort.Slice(all, func(i, j int) bool {
		if all[i][0] != all[j][0] {
			return all[i][0] < all[j][0]
		}
		return all[i][1] < all[j][1]
	})
	return all
}

// new are what counts, if the clock may go on to m.
func (x *modelBox) new(m int) ([][2]int, api.Errno) {
	if m < 0 || m > 4223371679 {
		return nil, api.ErrNumber
	}
	if m <= x.clock || x.clock != -1 && m-x.clock > 1500 {
		return nil, api.ErrClock
	}
	all := x.counted(m)
	if x.next+len(all) > 10000 {
		return nil, api.ErrIds
	}
	return all, api.OK
}

func (x *modelBox) tick(m int) (int, api.Errno) {
	all, errno := x.new(m)
	if errno != api.OK {
		return 0, errno
	}
	errno = x.ifRoom(func() {
		eight := binary.BigEndian.AppendUint64(nil, uint64(m))
		x.frame(append([]byte("C"), eight[3:]...))
		x.arrive(all)
		x.clock = m
		x.mark()
		x.lose()
	})
	if errno != api.OK {
		return 0, errno
	}
	return len(all), api.OK
}

func (x *modelBox) arrive(all [][2]int) {
	for _, c := range all {
		if len(x.slots) < 8 {
			x.slots = append(x.slots, api.Slot{Number: x.next, Line: c[1], Minute: c[0], Attempt: 1, From: c[0]})
		} else {
			x.end(x.next, "s")
		}
		x.next++
	}
}

func (x *modelBox) end(number int, how string) {
	x.slots = slices.DeleteFunc(x.slots, func(s api.Slot) bool { return s.Number == number })
	delete(x.talks, number)
	x.ends = append(x.ends, api.End{Number: number, How: how})
	if len(x.ends) > 6 {
		x.ends = x.ends[1:]
	}
}

// wantSame compares all that a box tells with the model.
func wantSame(t *testing.T, b *bellman.Box, x *modelBox) {
	t.Helper()
	want := api.View{Clock: x.clock, Next: x.next, Slots: len(x.slots), Ends: len(x.ends), Tab: x.tab}
	if v := b.Look(); v != want {
		t.Fatalf("P6: Look() = %+v, want %+v", v, want)
	}
	for i, slot := range x.slots {
		if s, e := b.Slot(i); s != slot || e != api.OK {
			t.Fatalf("P6: Slot(%d) = %+v, %d, want %+v", i, s, e, slot)
		}
	}
	for i, end := range x.ends {
		if s, e := b.End(i); s != end || e != api.OK {
			t.Fatalf("P6: End(%d) = %+v, %d, want %+v", i, s, e, end)
		}
	}
	wantNoMore(t, b, len(x.slots), len(x.ends))
	if log := b.Log(); log != string(x.log) {
		t.Fatalf("P7: the log is %x, want %x", log, x.log)
	}
}

// wantNoMore asks for slots and ends that are none.
func wantNoMore(t *testing.T, b *bellman.Box, slots, ends int) {
	t.Helper()
	for _, far := range []int{0, 1, 8, 9, 1 << 40, math.MaxInt - slots - ends} {
		if s, e := b.Slot(slots + far); s != (api.Slot{}) || e != api.ErrNumber {
			t.Fatalf("P6: of %d slots: Slot(%d) = %+v, %d", slots, slots+far, s, e)
		}
		if s, e := b.End(ends + far); s != (api.End{}) || e != api.ErrNumber {
			t.Fatalf("P6: of %d ends: End(%d) = %+v, %d", ends, ends+far, s, e)
		}
	}
	for _, below := range []int{-1, -2, -8, -1 << 40, math.MinInt} {
		if s, e := b.Slot(below); s != (api.Slot{}) || e != api.ErrNumber {
			t.Fatalf("P6: Slot(%d) = %+v, %d", below, s, e)
		}
		if s, e := b.End(below); s != (api.End{}) || e != api.ErrNumber {
			t.Fatalf("P6: End(%d) = %+v, %d", below, s, e)
		}
	}
}
