package frame

import (
	"reflect"
	"strings"
	"testing"

	"bellman/api"
	"bellman/state"
)

func wantContent(t *testing.T, log string, want Content) {
	t.Helper()
	got, ok := Take(log)
	if !ok || !reflect.DeepEqual(got, want) {
		t.Errorf("Take(%x) = %+v, %v, want %+v", log, got, ok, want)
	}
}

func wantNone(t *testing.T, log string) {
	t.Helper()
	got, ok := Take(log)
	if ok || !reflect.DeepEqual(got, Content{}) {
		t.Errorf("Take(%x) = %+v, %v, want none", log, got, ok)
	}
}

func TestTakeWhatWasWritten(t *testing.T) {
	tab := "* * * * * oa2 >a <b\n"
	some := state.State{
		Tab:   tab,
		Clock: 70000,
		Next:  600,
		Slots: []state.Slot{
			{Number: 258, Line: 1, Minute: 66000, Attempt: 1, From: 66000, Step: 1},
			{Number: 599, Line: 1, Minute: 69000, Attempt: 2, From: 70010},
		},
		Ends: []api.End{{Number: 513, How: "k"}, {Number: 1, How: "d"}},
	}
	for _, rest := range []string{"", "x", "\x00\x00", strings.Repeat("\x00", 70000)} {
		wantContent(t, Tab("")+rest, Content{Kind: KindTab, Size: 7})
		wantContent(t, Tab(tab)+rest, Content{Kind: KindTab, Tab: tab, Size: 7 + len(tab)})
		wantContent(t, Clock(0)+rest, Content{Kind: KindClock, Size: 12})
		wantContent(t, Clock(4223371679)+rest, Content{Kind: KindClock, Number: 4223371679, Size: 12})
		wantContent(t, Start(258)+rest, Content{Kind: KindStart, Number: 258, Size: 9})
		wantContent(t, Done(1)+rest, Content{Kind: KindDone, Number: 1, Size: 9})
		wantContent(t, Fail(9999)+rest, Content{Kind: KindFail, Number: 9999, Size: 9})
		wantContent(t, Cancel(10)+rest, Content{Kind: KindCancel, Number: 10, Size: 9})
		wantContent(t, Whole(some)+rest, Content{Kind: KindWhole, State: some, Size: 18 + len(tab) + 2*15 + 2*3})
	}
}

func TestTakeOfNoFrame(t *testing.T) {
	for _, log := range []string{"", "x", "\x00", "\x00\x00", "\x00\x00\x00\x00\x00\x00", "\xff\xff", strings.Repeat("\xff", 70000), strings.Repeat("\x00", 70000)} {
		wantNone(t, log)
	}
	for _, body := range []string{"", "x", "t", "S", "S\x00", "S\x00\x01\x00", "D\x01", "F\x01", "K\x01", "C\x00\x00\x00\x01", "C\x00\x00\x00\x00\x01\x00", "Z"} {
		wantNone(t, framed(body))
	}
	for _, log := range []string{Tab(""), Tab("x"), Clock(2751747319), Start(1), Whole(state.First())} {
		for cut := range log {
			wantNone(t, log[:cut])
		}
		for at := 2; at < len(log); at++ {
			spoilt := []byte(log)
			spoilt[at] ^= 128
			wantNone(t, string(spoilt))
		}
	}
}
