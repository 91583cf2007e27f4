package reassembly_test

import (
	"math"
	"testing"

	"stagepost/api"
	"stagepost/reassembly"
)

// full returns a table with the first fragments of the datagrams 1 to 8, in that order.
func full(t *testing.T, now int) *reassembly.Table {
	t.Helper()
	x := reassembly.New()
	for id := 1; id <= 8; id++ {
		kept(t, x, now, of(id, part(0, 8, true)))
		sizes(t, x, id, 8*id)
	}
	return x
}

// heads returns the first fragments of datagrams.
func heads(ids ...int) []api.Packet {
	var all []api.Packet
	for _, id := range ids {
		all = append(all, of(id, part(0, 8, true)))
	}
	return all
}

// TestBound: P7.1 and P7.3, eight incomplete datagrams, the ninth, and the one that was removed for it again.
func TestBound(t *testing.T) {
	x := full(t, 0)
	kept(t, x, 0, of(9, part(0, 16, true)))
	sizes(t, x, 8, 72)
	// 2 to 8 are as they were; 1 is a new one, for which 2 is removed.
	for id := 8; id > 2; id-- {
		kept(t, x, 0, of(id, part(0, 16, true)))
	}
	sizes(t, x, 8, 8+7*16)
	kept(t, x, 0, of(1, part(8, 10, false)))
	sizes(t, x, 8, 7*16+2)
	completed(t, x, 0, of(1, part(0, 8, true)), of(1, whole(10)))
	sizes(t, x, 7, 7*16)
	kept(t, x, 0, of(2, part(8, 9, false)))
	sizes(t, x, 8, 7*16+1)
	tick(t, x, 30, append(heads(3, 4, 5, 6, 7, 8), of(9, part(0, 16, true)))...)
}

// TestBoundOrder: P7.1, the datagram that is removed is the one created first, not the one with the least time, nor the one that fewest fragments came for.
func TestBoundOrder(t *testing.T) {
	ids := []int{40, 10, 80, 20, 70, 30, 60, 50, 1, 2, 3, 4, 5, 6, 7, 8, 9}
	for _, times := range [][]int{{0, 1, 2, 3, 4, 5, 6, 7}, {7, 6, 5, 4, 3, 2, 1, 0}, {9, 9, 9, 9, 0, 0, 0, 0}, {math.MaxInt - 30, 0, math.MinInt, 3, -3, 8, -8, 1}} {
		for more := range 10 {
			x := reassembly.New()
			for i, id := range ids[:8+more] {
				kept(t, x, times[i%8], of(id, part(0, 8, true)))
				// What else comes for one that is there does not make it a younger one.
				kept(t, x, 0, of(ids[max(0, i-7)], part(0, 8, true)))
				sizes(t, x, min(i+1, 8), 8*min(i+1, 8))
			}
			tick(t, x, math.MaxInt, heads(ids[more:8+more]...)...)
			sizes(t, x, 0, 0)
		}
	}
}

// TestBoundStarts: P7.1, whatever the start times are, each further datagram removes the oldest one: a run of many.
func TestBoundStarts(t *testing.T) {
	x := reassembly.New()
	for id := range 300 {
		kept(t, x, 1000-7*id%11*100, of(id, part(8, 16, false)))
		sizes(t, x, min(id+1, 8), 8*min(id+1, 8))
	}
	for id := 292; id < 300; id++ {
		completed(t, x, 0, of(id, part(0, 8, true)), of(id, whole(16)))
		sizes(t, x, 299-id, 8*(299-id))
	}
}

// TestBoundRejected: P7.1, rejected datagrams count as others do, and are removed as others are.
func TestBoundRejected(t *testing.T) {
	x := full(t, 0)
	for _, id := range []int{1, 3, 8} {
		refused(t, x, 0, of(id, spoilt(part(0, 8, true), 1)))
	}
	sizes(t, x, 8, 40)
	kept(t, x, 0, of(9, part(0, 8, true)))
	sizes(t, x, 8, 48)
	// 1 is as if it had never been, 2 and all after it are still there until others come.
	refused(t, x, 0, of(3, part(8, 9, false)), of(8, part(8, 9, false)))
	kept(t, x, 0, of(1, part(8, 10, false)))
	sizes(t, x, 8, 42)
	completed(t, x, 0, of(1, part(0, 8, true)), of(1, whole(10)))
	sizes(t, x, 7, 40)
	tick(t, x, 30, heads(4, 5, 6, 7, 9)...)
	sizes(t, x, 0, 0)
}

// TestCompletesInFull: P7.1, a datagram that completes while eight are incomplete leaves the others as they are, and room for one more.
func TestCompletesInFull(t *testing.T) {
	for id := 1; id <= 8; id++ {
		x := full(t, 0)
		kept(t, x, 0, of(id, part(8, 16, true)))
		sizes(t, x, 8, 72)
		completed(t, x, 0, of(id, part(16, 17, false)), of(id, whole(17)))
		sizes(t, x, 7, 56)
		kept(t, x, 0, of(9, part(8, 9, false)))
		sizes(t, x, 8, 57)
		var left []api.Packet
		for other := 1; other <= 8; other++ {
			if other != id {
				left = append(left, heads(other)...)
			}
		}
		tick(t, x, 30, left...)
		sizes(t, x, 0, 0)
	}
}

// TestAge: P7.2, a datagram goes when now is at least 30 ticks after its start time, at any times, and not by a difference that wraps around.
func TestAge(t *testing.T) {
	for _, c := range []struct {
		start, now int
		gone       bool
	}{
		{0, 0, false}, {0, 1, false}, {0, 28, false}, {0, 29, false}, {0, 30, true}, {0, 31, true}, {0, 1000, true}, {0, -1, false}, {0, -29, false}, {0, -30, false}, {0, -31, false}, {0, -1000, false},
		{-30, -1, false}, {-30, 0, true}, {-30, 1, true}, {-15, 14, false}, {-15, 15, true}, {-100, -71, false}, {-100, -70, true}, {-100, -130, false},
		{7, 36, false}, {7, 37, true}, {1 << 40, 1<<40 + 29, false}, {1 << 40, 1<<40 + 30, true}, {1 << 40, 0, false}, {1<<32 - 1, 1<<32 + 28, false}, {1<<32 - 1, 1<<32 + 29, true},
		{math.MinInt, math.MinInt, false}, {math.MinInt, math.MinInt + 29, false}, {math.MinInt, math.MinInt + 30, true}, {math.MinInt, -1, true}, {math.MinInt, 0, true}, {math.MinInt, 29, true}, {math.MinInt, math.MaxInt, true}, {math.MinInt, math.MaxInt - 29, true},
		{math.MinInt + 1, 0, true}, {math.MinInt + 29, math.MaxInt, true}, {-1, math.MaxInt, true}, {-2, math.MaxInt, true}, {-1, math.MinInt, false}, {1, math.MinInt, false}, {29, math.MinInt, false}, {30, math.MinInt, false}, {31, math.MinInt, false},
		{math.MaxInt, math.MaxInt, false}, {math.MaxInt, math.MinInt, false}, {math.MaxInt, math.MinInt + 29, false}, {math.MaxInt, math.MinInt + 30, false}, {math.MaxInt, 0, false}, {math.MaxInt - 29, math.MaxInt, false}, {math.MaxInt - 30, math.MaxInt, true}, {math.MaxInt - 31, math.MaxInt, true},
		{math.MaxInt - 29, math.MinInt, false}, {0, math.MinInt, false}, {0, math.MaxInt, true},
	} {
		x := reassembly.New()
		kept(t, x, c.start, part(0, 8, true))
		if c.gone {
			tick(t, x, c.now, part(0, 8, true))
			sizes(t, x, 0, 0)
		} else {
			tick(t, x, c.now)
			sizes(t, x, 1, 8)
			completed(t, x, c.now, part(8, 9, false), whole(9))
		}
		if t.Failed() {
			t.Fatalf("start %d, now %d", c.start, c.now)
		}
	}
}

// TestStart: P7.2, the start time is that of the first fragment, whichever it is; no later one changes it.
func TestStart(t *testing.T) {
	x := reassembly.New()
	kept(t, x, 100, part(8, 16, true))
	kept(t, x, 129, part(0, 8, true))
	kept(t, x, 50, part(16, 24, true))
	tick(t, x, 129)
	sizes(t, x, 1, 24)
	tick(t, x, 130, part(0, 8, true))
	sizes(t, x, 0, 0)
	// A datagram goes by Tick alone.
	kept(t, x, 0, part(0, 8, true))
	kept(t, x, 1000, part(8, 16, true))
	sizes(t, x, 1, 16)
	completed(t, x, 2000, part(16, 18, false), whole(18))
	// After it has completed, the next one with its key has a start time of its own.
	kept(t, x, 0, part(0, 8, true))
	completed(t, x, 20, part(8, 9, false), whole(9))
	kept(t, x, 20, part(0, 8, true))
	tick(t, x, 49)
	tick(t, x, 50, part(0, 8, true))
	// A rejection doesn't change the start time either.
	kept(t, x, 10, part(0, 8, true))
	refused(t, x, 20, spoilt(part(0, 8, true), 0))
	refused(t, x, 39, part(8, 9, false))
	tick(t, x, 39)
	sizes(t, x, 1, 0)
	tick(t, x, 40)
	sizes(t, x, 0, 0)
}

// TestTick: P7.2, what expires is returned in the order of creation, whatever the times and the keys are, and each datagram once.
func TestTick(t *testing.T) {
	x := reassembly.New()
	start := []int{50, 10, 40, 10, 30, 20, 30, 60}
	ids := []int{9, 3, 7, 1, 65535, 0, 300, 2}
	for i, id := range ids {
		kept(t, x, start[i], of(id, part(0, 8, true)))
	}
	kept(t, x, 0, of(7, part(8, 16, true)), of(9, part(0, 24, true)))
	sizes(t, x, 8, 8*8+8+16)
	tick(t, x, 39)
	tick(t, x, 40, heads(3, 1)...)
	sizes(t, x, 6, 6*8+24)
	tick(t, x, 40)
	tick(t, x, 79, heads(7, 65535, 0, 300)...)
	sizes(t, x, 2, 16+16)
	tick(t, x, 79)
	// A datagram of an earlier time, created later, comes after them.
	kept(t, x, -100, of(1, part(0, 8, true)))
	tick(t, x, 90, heads(9, 2, 1)...)
	sizes(t, x, 0, 0)
	tick(t, x, math.MaxInt)
}

// TestTickKinds: P7.2, only datagrams whose first fragment has arrived and that are not rejected are returned; all that are old go.
func TestTickKinds(t *testing.T) {
	x := reassembly.New()
	kept(t, x, 0, of(1, part(8, 16, true)))
	kept(t, x, 0, of(2, part(8, 16, true)), of(2, part(0, 16, true)), of(2, part(0, 8, true)))
	kept(t, x, 0, of(3, part(0, 8, true)))
	refused(t, x, 0, of(3, spoilt(part(0, 8, true), 5)))
	kept(t, x, 0, of(4, part(8, 12, false)))
	kept(t, x, 0, of(5, part(0, 8, true)), of(5, part(16, 20, false)))
	kept(t, x, 1, of(6, part(0, 8, true)))
	kept(t, x, 0, of(7, part(8, 16, false)))
	refused(t, x, 0, of(7, part(8, 17, false)), of(7, part(0, 8, true)))
	sizes(t, x, 7, 8+16+0+4+12+8)
	tick(t, x, 29)
	sizes(t, x, 7, 8+16+0+4+12+8)
	tick(t, x, 30, of(2, part(0, 16, true)), of(5, part(0, 8, true)))
	sizes(t, x, 1, 8)
	tick(t, x, 31, of(6, part(0, 8, true)))
	sizes(t, x, 0, 0)
	// What is expired leaves nothing behind: neither bytes, nor an end, nor a rejection.
	completed(t, x, 31, of(1, whole(3)), of(1, whole(3)))
	kept(t, x, 31, of(1, part(0, 8, true)), of(3, part(8, 9, false)), of(4, part(16, 24, true)), of(7, part(8, 20, false)))
	completed(t, x, 31, of(3, spoilt(part(0, 8, true), 5)), of(3, spoilt(whole(9), 5)))
	completed(t, x, 31, of(7, part(0, 8, true)), of(7, whole(20)))
	sizes(t, x, 2, 16)
}

// TestOwnMemory: R3, what one call returned is not changed by a later one, and the other way round.
func TestOwnMemory(t *testing.T) {
	x := full(t, 0)
	list := x.Tick(30)
	for i := range list {
		list[i].S = "changed"
	}
	x = full(t, 0)
	first := x.Tick(30)
	for id := 8; id > 0; id-- {
		kept(t, x, 0, of(id, part(0, 16, true)))
	}
	x.Tick(30)
	for i, p := range first {
		if p != heads(i + 1)[0] {
			t.Errorf("%d: %+v", i, p)
		}
	}
	kept(t, x, 0, part(0, 8, true))
	p, _, _ := x.Put(0, part(8, 16, false))
	kept(t, x, 0, spoilt(part(0, 8, true), 2))
	if p != whole(16) {
		t.Errorf("a datagram has changed: %+v", p)
	}
}
