package bellman_test

import (
	"math"
	"testing"

	"bellman/api"
	"bellman/bellman"
)

func TestNewBounds(t *testing.T) {
	limits := []int{math.MinInt, math.MinInt32, -4, -1, 0, 1, 2, 3, 4, 5, 6, 600, 1 << 32, 1<<32 + 1, 1 << 62, math.MaxInt}
	rooms := []int{math.MinInt, math.MinInt32, -600, -1, 0, 1, 4, 599, 600, 601, 2000, 3999, 4000, 4001, 1 << 32, 1<<32 + 600, 1 << 62, math.MaxInt}
	for _, limit := range limits {
		for _, room := range rooms {
			if limit >= 1 && limit <= 4 && room >= 600 && room <= 4000 {
				p := newPair(t, limit, room)
				wantSame(t, p.box, p.model)
				continue
			}
			if b, e := bellman.New(limit, room); b != nil || e != api.ErrNumber {
				t.Errorf("P1, P5: New(%d, %d) = %v, %d, want nil, %d", limit, room, b, e, api.ErrNumber)
			}
		}
	}
}

func TestStateAtFirst(t *testing.T) {
	for limit := 1; limit <= 4; limit++ {
		b, e := bellman.New(limit, 600)
		if b == nil || e != api.OK {
			t.Fatalf("P5: New(%d, 600) = %v, %d", limit, b, e)
		}
		if v := b.Look(); v != (api.View{Clock: -1, Next: 1, Slots: 0, Ends: 0, Tab: ""}) {
			t.Errorf("P5, P6: a new box looks %+v", v)
		}
		if log := b.Log(); log != "" {
			t.Errorf("P5, P6: the log of a new box is %q", log)
		}
		wantNoMore(t, b, 0, 0)
	}
}
