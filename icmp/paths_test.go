package icmp_test

import (
	"math"
	"testing"

	"stagepost/api"
	"stagepost/icmp"
)

// lower checks what Lower answers, and how many entries there are then.
func lower(t *testing.T, x *icmp.Paths, now, to, size int, want bool, count int) {
	t.Helper()
	if got := x.Lower(now, to, size); got != want || x.Len() != count {
		t.Errorf("Lower(%d, %d, %d) = %v, %d entries; want %v, %d", now, to, size, got, x.Len(), want, count)
	}
}

// sized checks what Size answers.
func sized(t *testing.T, x *icmp.Paths, now, to, mtu, want int) {
	t.Helper()
	if got := x.Size(now, to, mtu); got != want {
		t.Errorf("Size(%d, %d, %d) = %d; want %d", now, to, mtu, got, want)
	}
}

// full returns a table with entries for the addresses 1 to 16, stored in that order at one time, with the sizes 501 to 516.
func full(t *testing.T, now int) *icmp.Paths {
	t.Helper()
	x := icmp.New()
	for to := 1; to <= 16; to++ {
		lower(t, x, now, to, 500+to, true, to)
	}
	return x
}

// holds checks which of the addresses 1 to 40 have entries, if those have the sizes 501 to 540.
func holds(t *testing.T, x *icmp.Paths, now int, want ...int) {
	t.Helper()
	sizes := map[int]int{}
	for _, to := range want {
		sizes[to] = 500 + to
	}
	for to := 1; to <= 40; to++ {
		size, ok := sizes[to]
		if !ok {
			size = 1024
		}
		sized(t, x, now, to, 1024, size)
	}
}

// TestPathsEmpty: P8.3, an empty table, and one that is nil.
func TestPathsEmpty(t *testing.T) {
	times := []int{math.MinInt, -600, -1, 0, 1, 599, 600, 1000000000, 1000000001, math.MaxInt}
	for _, x := range []*icmp.Paths{icmp.New(), nil} {
		for _, now := range times {
			for _, to := range []int{math.MinInt, -1, 0, 1, api.All, api.All + 1, math.MaxInt} {
				for _, mtu := range []int{math.MinInt, -1, 0, 1, 68, 1024, 65535, math.MaxInt} {
					sized(t, x, now, to, mtu, mtu)
				}
			}
		}
		if n := x.Len(); n != 0 {
			t.Errorf("Len = %d; want 0", n)
		}
	}
	var x *icmp.Paths
	for _, now := range times {
		lower(t, x, now, 1, 100, false, 0)
		lower(t, x, now, -1, 100, false, 0)
	}
	if icmp.New() == nil {
		t.Error("New() = nil")
	}
}

// TestLowerEdges: P8.3, times, addresses and sizes at the ends of their ranges.
func TestLowerEdges(t *testing.T) {
	for _, now := range []int{0, 1, 599, 600, 999999999, 1000000000} {
		for _, to := range []int{0, 1, 2, 255, 1 << 31, api.All - 1, api.All} {
			for _, size := range []int{68, 69, 576, 1023, 1024} {
				x := icmp.New()
				lower(t, x, now, to, size, true, 1)
				sized(t, x, now, to, 1500, size)
				sized(t, x, now+599, to, 1500, size)
				sized(t, x, now+600, to, 1500, 1500)
				sized(t, x, now, to+1, 1500, 1500)
				sized(t, x, now, to-1, 1500, 1500)
				sized(t, x, now, to+1<<32, 1500, 1500)
			}
		}
	}
	x := icmp.New()
	lower(t, x, 0, 0, 100, true, 1)
	lower(t, x, 0, api.All, 200, true, 2)
	sized(t, x, 0, 0, 1024, 100)
	sized(t, x, 0, api.All, 1024, 200)
}

// TestLowerRefuses: P8.3, times, addresses and sizes out of their ranges: nothing changes, and no entry is removed, not even one that is no longer fresh.
func TestLowerRefuses(t *testing.T) {
	x := icmp.New()
	for to := 1; to <= 16; to++ {
		now := 1000
		if to == 2 {
			now = 500
		}
		lower(t, x, now, to, 500+to, true, to)
	}
	all := []int{1, 2, 3, 4, 5, 6, 7, 8, 9, 10, 11, 12, 13, 14, 15, 16}
	holds(t, x, 1000, all...)
	for _, now := range []int{math.MinInt, -1000000000, -600, -1, 1000000001, 1000000002, 1 << 32, math.MaxInt - 600, math.MaxInt} {
		for _, to := range []int{2, 3, 20, 0, api.All} {
			lower(t, x, now, to, 100, false, 16)
		}
	}
	for _, now := range []int{0, 500, 1000, 2000, 1000000000} {
		for _, to := range []int{math.MinInt, math.MinInt + 2, -4294967296, -2, -1, 4294967296, 4294967297, 4294967298, 1 << 33, math.MaxInt} {
			lower(t, x, now, to, 100, false, 16)
		}
		for _, size := range []int{math.MinInt, -100, -1, 0, 1, 66, 67, 1025, 1026, 4096, 65636, 1 << 32, 1<<32 + 100, math.MaxInt} {
			for _, to := range []int{2, 3, 20, 0, api.All, -1} {
				lower(t, x, now, to, size, false, 16)
			}
		}
	}
	holds(t, x, 1000, all...)
	holds(t, x, 1599, 1, 3, 4, 5, 6, 7, 8, 9, 10, 11, 12, 13, 14, 15, 16)
	// The order is as it was: 1 is the one stored first.
	lower(t, x, 1000, 17, 517, true, 16)
	holds(t, x, 1000, 2, 3, 4, 5, 6, 7, 8, 9, 10, 11, 12, 13, 14, 15, 16, 17)
}

// TestLowerCompares: P8.3, sizes equal to, above and below the stored one, while the entry is fresh and after.
func TestLowerCompares(t *testing.T) {
	for _, start := range []int{0, 7, 5000, 1000000000 - 700} {
		for _, age := range []int{0, 1, 598, 599, 600, 601, 700} {
			for _, c := range []struct {
				size  int
				lower bool
			}{{68, true}, {498, true}, {499, true}, {500, false}, {501, false}, {1024, false}} {
				x := icmp.New()
				lower(t, x, start, 5, 500, true, 1)
				now := start + age
				if age >= 600 {
					lower(t, x, now, 5, c.size, true, 1)
					sized(t, x, now+599, 5, 1024, c.size)
					sized(t, x, now+600, 5, 1024, 1024)
				} else if c.lower {
					lower(t, x, now, 5, c.size, true, 1)
					sized(t, x, now, 5, 1024, c.size)
					sized(t, x, now+599, 5, 1024, c.size)
					sized(t, x, now+600, 5, 1024, 1024)
				} else {
					lower(t, x, now, 5, c.size, false, 1)
					sized(t, x, now, 5, 1024, 500)
					// The entry stays as old as it is.
					sized(t, x, start+599, 5, 1024, 500)
					sized(t, x, start+600, 5, 1024, 1024)
				}
			}
		}
	}
}

// TestLowerBefore: P8.3, an entry is fresh at every time below the one at which it was stored, and a smaller size gives it that earlier time.
func TestLowerBefore(t *testing.T) {
	x := icmp.New()
	lower(t, x, 1000000000, 5, 500, true, 1)
	lower(t, x, 0, 5, 500, false, 1)
	lower(t, x, 999999000, 5, 600, false, 1)
	sized(t, x, math.MinInt, 5, 1024, 500)
	sized(t, x, 1000000599, 5, 1024, 500)
	lower(t, x, 0, 5, 499, true, 1)
	sized(t, x, 599, 5, 1024, 499)
	sized(t, x, 600, 5, 1024, 1024)
	lower(t, x, 1, 6, 68, true, 2)
	lower(t, x, 0, 7, 68, true, 3)
	lower(t, x, 600, 7, 1024, true, 2)
	lower(t, x, 601, 8, 1024, true, 2)
}

// TestSize: P8.3, an interface's MTU below, at and above the stored size, any ints among them, at any time.
func TestSize(t *testing.T) {
	for _, now := range []int{0, 1, 599, 600, 100000, 1000000000} {
		x := icmp.New()
		lower(t, x, now, 9, 500, true, 1)
		for _, at := range []int{math.MinInt, math.MinInt + 1, math.MinInt + 600, -1 << 32, -1000000000, -601, -600, -599, -1, 0, 1, now - 600, now - 1, now, now + 1, now + 598, now + 599, now + 600, now + 601, 1000000599, 1000000600, 1 << 32, math.MaxInt - 600, math.MaxInt - 1, math.MaxInt} {
			for _, mtu := range []int{math.MinInt, -500, -1, 0, 67, 68, 499, 500, 501, 1024, 1025, 65535, 1 << 32, math.MaxInt} {
				want := mtu
				if at < now+600 && mtu > 500 {
					want = 500
				}
				sized(t, x, at, 9, mtu, want)
				sized(t, x, at, 8, mtu, mtu)
				sized(t, x, at, -9, mtu, mtu)
				sized(t, x, at, 9+1<<32, mtu, mtu)
			}
		}
		// Reading removes nothing.
		if n := x.Len(); n != 1 {
			t.Errorf("Len = %d; want 1", n)
		}
		sized(t, x, now+599, 9, 1024, 500)
	}
}

// TestPathsBound: P8.3 and P8.4, the 16th entry, the 17th and more: the one stored first goes, also where the times run backwards.
func TestPathsBound(t *testing.T) {
	for _, time := range []func(i int) int{
		func(i int) int { return 0 }, func(i int) int { return i }, func(i int) int { return 599 - i }, func(i int) int { return 1000000000 - i*7%11*50 }, func(i int) int { return 1000000000 - i },
	} {
		x := icmp.New()
		for to := 1; to <= 40; to++ {
			lower(t, x, time(to), to, 500+to, true, min(to, 16))
			var want []int
			for stored := max(1, to-15); stored <= to; stored++ {
				want = append(want, stored)
			}
			holds(t, x, time(to), want...)
			holds(t, x, math.MinInt, want...)
		}
	}
}

// TestPathsBoundFromAbove: P8.3, it is the order of the calls that counts, not that of the addresses or of the sizes.
func TestPathsBoundFromAbove(t *testing.T) {
	x := icmp.New()
	for to := 40; to >= 1; to-- {
		lower(t, x, 3, to, 500+to, true, min(41-to, 16))
	}
	holds(t, x, 3, 1, 2, 3, 4, 5, 6, 7, 8, 9, 10, 11, 12, 13, 14, 15, 16)
	lower(t, x, 3, 30, 530, true, 16)
	holds(t, x, 3, 1, 2, 3, 4, 5, 6, 7, 8, 9, 10, 11, 12, 13, 14, 15, 30)
	lower(t, x, 3, 29, 529, true, 16)
	holds(t, x, 3, 1, 2, 3, 4, 5, 6, 7, 8, 9, 10, 11, 12, 13, 14, 29, 30)
}

// TestLowerAgain: P8.3, an entry that is lowered again becomes the newest, and in a full table no other goes for it; one that is not lowered stays where it is.
func TestLowerAgain(t *testing.T) {
	for again := 1; again <= 16; again++ {
		x := full(t, 10)
		lower(t, x, 10, again, 68, true, 16)
		sized(t, x, 10, again, 1024, 68)
		// Fifteen further ones drive out all others, and the sixteenth that one.
		for to := 21; to <= 35; to++ {
			lower(t, x, 10, to, 500+to, true, 16)
		}
		sized(t, x, 10, again, 1024, 68)
		for to := 1; to <= 16; to++ {
			if to != again {
				sized(t, x, 10, to, 1024, 1024)
			}
		}
		lower(t, x, 10, 36, 536, true, 16)
		sized(t, x, 10, again, 1024, 1024)
		sized(t, x, 10, 21, 1024, 521)

		x = full(t, 10)
		for _, size := range []int{500 + again, 501 + again, 1024} {
			lower(t, x, 10, again, size, false, 16)
		}
		x.Size(10, again, 1024)
		for to := 21; to < 21+again; to++ {
			lower(t, x, 10, to, 500+to, true, 16)
		}
		sized(t, x, 10, again, 1024, 1024)
		if again < 16 {
			sized(t, x, 10, again+1, 1024, 501+again)
		}
	}
}

// TestLowerExpires: P8.3, each Lower whose arguments are in range first removes what is not fresh at its time, also if it then stores nothing.
func TestLowerExpires(t *testing.T) {
	fill := func() *icmp.Paths {
		x := icmp.New()
		for i, now := range []int{300, 100, 500, 100, 200, 400} {
			lower(t, x, now, i+1, 501+i, true, i+1)
		}
		return x
	}
	for _, c := range []struct {
		now, fresh int
	}{{0, 6}, {99, 6}, {699, 6}, {700, 4}, {701, 4}, {799, 4}, {800, 3}, {899, 3}, {900, 2}, {999, 2}, {1000, 1}, {1099, 1}, {1100, 0}, {1000000000, 0}} {
		x := fill()
		lower(t, x, c.now, 9, 1024, true, c.fresh+1)
		x = fill()
		if c.fresh > 0 {
			lower(t, x, c.now, 3, 503, false, c.fresh)
			lower(t, x, c.now, 3, 1024, false, c.fresh)
			lower(t, x, c.now, 3, 502, true, c.fresh)
		} else {
			lower(t, x, c.now, 3, 1024, true, 1)
		}
	}
	// What is removed is gone, also for times at which it would be fresh.
	x := fill()
	lower(t, x, 800, 3, 503, false, 3)
	holds(t, x, 0, 1, 3, 6)
	// What is not removed counts, fresh or not, and is there again for earlier times.
	x = fill()
	for to := 1; to <= 6; to++ {
		sized(t, x, 1100, to, 1024, 1024)
	}
	if n := x.Len(); n != 6 {
		t.Errorf("Len = %d; want 6", n)
	}
	holds(t, x, 0, 1, 2, 3, 4, 5, 6)
}

// TestLowerExpiresFirst: P8.3, what is no longer fresh makes room, so that no fresh entry goes for a 17th one.
func TestLowerExpiresFirst(t *testing.T) {
	x := icmp.New()
	for to := 1; to <= 16; to++ {
		now := 1000
		if to == 9 {
			now = 500
		}
		lower(t, x, now, to, 500+to, true, to)
	}
	lower(t, x, 1100, 20, 520, true, 16)
	holds(t, x, 1100, 1, 2, 3, 4, 5, 6, 7, 8, 10, 11, 12, 13, 14, 15, 16, 20)
	lower(t, x, 1100, 21, 521, true, 16)
	holds(t, x, 1100, 2, 3, 4, 5, 6, 7, 8, 10, 11, 12, 13, 14, 15, 16, 20, 21)
	lower(t, x, 1600, 20, 520, false, 2)
	holds(t, x, 1600, 20, 21)
	lower(t, x, 1700, 20, 1024, true, 1)
	sized(t, x, 1700, 20, 2000, 1024)
	sized(t, x, 0, 21, 1024, 1024)
}

// TestPathsApart: R4, tables are independent of each other.
func TestPathsApart(t *testing.T) {
	x, y := icmp.New(), icmp.New()
	lower(t, x, 0, 1, 501, true, 1)
	lower(t, y, 0, 1, 600, true, 1)
	lower(t, y, 0, 2, 502, true, 2)
	sized(t, x, 0, 1, 1024, 501)
	sized(t, y, 0, 1, 1024, 600)
	sized(t, x, 0, 2, 1024, 1024)
	if x.Len() != 1 || y.Len() != 2 {
		t.Errorf("Len = %d and %d; want 1 and 2", x.Len(), y.Len())
	}
}
