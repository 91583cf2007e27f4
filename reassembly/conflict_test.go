package reassembly_test

import (
	"testing"

	"stagepost/api"
	"stagepost/reassembly"
)

// TestConflictBytes: P7.1, a byte that differs at each position of an overlap rejects the datagram, wherever the overlap is; one that agrees does not.
func TestConflictBytes(t *testing.T) {
	for i, c := range []struct {
		before []api.Packet
		next   api.Packet
		// The next fragment conflicts if it differs at an offset from overlap[0] up to overlap[1], or from [2] up to [3].
		overlap [4]int
	}{
		{[]api.Packet{part(0, 8, true)}, part(0, 8, true), [4]int{0, 8}},
		{[]api.Packet{part(0, 8, true)}, part(0, 16, true), [4]int{0, 8}},
		{[]api.Packet{part(0, 16, true)}, part(0, 8, true), [4]int{0, 8}},
		{[]api.Packet{part(0, 16, true)}, part(8, 24, true), [4]int{8, 16}},
		{[]api.Packet{part(8, 24, true)}, part(0, 16, true), [4]int{8, 16}},
		{[]api.Packet{part(8, 16, true)}, part(0, 24, true), [4]int{8, 16}},
		{[]api.Packet{part(0, 24, true)}, part(8, 16, true), [4]int{8, 16}},
		{[]api.Packet{part(0, 8, true), part(16, 24, true)}, part(0, 24, true), [4]int{0, 8, 16, 24}},
		{[]api.Packet{part(8, 16, true), part(24, 32, true)}, part(0, 40, true), [4]int{8, 16, 24, 32}},
		{[]api.Packet{part(8, 16, true), part(24, 32, true)}, part(16, 24, true), [4]int{}},
		{[]api.Packet{part(8, 16, true)}, part(0, 8, true), [4]int{}},
		{[]api.Packet{part(8, 16, true)}, part(16, 24, true), [4]int{}},
		{[]api.Packet{part(16, 19, false)}, part(16, 19, false), [4]int{16, 19}},
		{[]api.Packet{part(16, 19, false)}, part(8, 19, false), [4]int{16, 19}},
		{[]api.Packet{part(8, 19, false)}, part(16, 19, false), [4]int{16, 19}},
		{[]api.Packet{part(8, 24, true)}, part(16, 25, false), [4]int{16, 24}},
		{[]api.Packet{part(8, 24, true)}, part(16, 24, false), [4]int{16, 24}},
		{[]api.Packet{part(8, 24, false)}, part(16, 24, true), [4]int{16, 24}},
		{[]api.Packet{part(3984, 4000, true)}, part(3992, 4000, false), [4]int{3992, 4000}},
	} {
		fill := func() *reassembly.Table {
			x := reassembly.New()
			kept(t, x, 0, c.before...)
			kept(t, x, 0, of(2, part(0, 8, true)))
			return x
		}
		kept(t, fill(), 0, c.next)
		for at := c.next.Off; at < c.next.Off+len(c.next.S); at++ {
			x := fill()
			if c.overlap[0] <= at && at < c.overlap[1] || c.overlap[2] <= at && at < c.overlap[3] {
				refused(t, x, 0, spoilt(c.next, at), c.next)
				refused(t, x, 0, c.before...)
				sizes(t, x, 2, 8)
			} else {
				kept(t, x, 0, spoilt(c.next, at))
				refused(t, x, 0, c.next)
			}
			if t.Failed() {
				t.Fatalf("case %d, offset %d", i, at)
			}
		}
	}
}

// TestConflictBits: P7.1, bytes conflict whatever bit they differ in, also where one of them is 0.
func TestConflictBits(t *testing.T) {
	for bit := range 8 {
		for _, byte0 := range []byte{0, 255, 'a'} {
			x := reassembly.New()
			p, q := part(0, 8, true), part(0, 8, true)
			p.S = string([]byte{1, 2, 3, 4, 5, 6, 7, byte0})
			q.S = string([]byte{1, 2, 3, 4, 5, 6, 7, byte0 ^ 1<<bit})
			kept(t, x, 0, p, p)
			refused(t, x, 0, q, p)
		}
	}
	// Bytes of 0 are bytes as others are.
	x := reassembly.New()
	zeros := part(8, 16, true)
	zeros.S = "\x00\x00\x00\x00\x00\x00\x00\x00"
	kept(t, x, 0, part(16, 17, false))
	head := part(0, 8, true)
	head.S = zeros.S
	kept(t, x, 0, head)
	sizes(t, x, 1, 9)
	want := whole(17)
	want.S = zeros.S + zeros.S + want.S[16:]
	completed(t, x, 0, zeros, want)
}

// TestConflictEnds: P7.1, fragments that do not fit the end that is known, or that end the datagram before a byte that was received.
func TestConflictEnds(t *testing.T) {
	for i, c := range []struct {
		before   []api.Packet
		next     api.Packet
		conflict bool
	}{
		// A fragment that ends after the known end, at it, and before it.
		{[]api.Packet{part(8, 16, false)}, part(8, 24, true), true},
		{[]api.Packet{part(8, 16, false)}, part(16, 24, true), true},
		{[]api.Packet{part(8, 16, false)}, part(0, 24, true), true},
		{[]api.Packet{part(8, 15, false)}, part(0, 16, true), true},
		{[]api.Packet{part(8, 15, false)}, part(8, 16, true), true},
		{[]api.Packet{part(8, 15, false)}, part(16, 24, true), true},
		{[]api.Packet{part(8, 9, false)}, part(24, 32, true), true},
		{[]api.Packet{part(8, 9, false)}, part(3992, 4000, true), true},
		{[]api.Packet{part(8, 16, false)}, part(8, 16, true), false},
		{[]api.Packet{part(16, 24, false)}, part(8, 24, true), false},
		{[]api.Packet{part(16, 24, false)}, part(8, 16, true), false},
		{[]api.Packet{part(24, 32, false)}, part(0, 16, true), false},
		{[]api.Packet{part(16, 17, false)}, part(0, 8, true), false},
		// A last fragment with another end, after the known one and before it, and with the same end.
		{[]api.Packet{part(8, 16, false)}, part(8, 17, false), true},
		{[]api.Packet{part(8, 16, false)}, part(8, 15, false), true},
		{[]api.Packet{part(8, 16, false)}, part(16, 17, false), true},
		{[]api.Packet{part(8, 10, false)}, part(8, 9, false), true},
		{[]api.Packet{part(8, 10, false)}, part(8, 11, false), true},
		{[]api.Packet{part(8, 10, false)}, part(3992, 4000, false), true},
		{[]api.Packet{part(3992, 4000, false)}, part(8, 10, false), true},
		{[]api.Packet{part(16, 24, false)}, part(8, 16, false), true},
		{[]api.Packet{part(16, 24, false)}, part(8, 17, false), true},
		{[]api.Packet{part(16, 24, false)}, part(8, 24, false), false},
		{[]api.Packet{part(16, 24, false)}, part(16, 24, false), false},
		{[]api.Packet{part(8, 24, false)}, part(16, 24, false), false},
		{[]api.Packet{part(8, 10, false), part(8, 10, false)}, part(8, 10, false), false},
		// A last fragment whose end lies before a byte that was received, at it, and after it.
		{[]api.Packet{part(16, 24, true)}, part(8, 15, false), true},
		{[]api.Packet{part(16, 24, true)}, part(8, 16, false), true},
		{[]api.Packet{part(16, 24, true)}, part(8, 17, false), true},
		{[]api.Packet{part(16, 24, true)}, part(16, 23, false), true},
		{[]api.Packet{part(16, 24, true)}, part(16, 17, false), true},
		{[]api.Packet{part(16, 24, true)}, part(16, 24, false), false},
		{[]api.Packet{part(16, 24, true)}, part(24, 25, false), false},
		{[]api.Packet{part(16, 24, true)}, part(32, 33, false), false},
		{[]api.Packet{part(16, 24, true)}, part(16, 25, false), false},
		{[]api.Packet{part(3992, 4000, true)}, part(3992, 3999, false), true},
		{[]api.Packet{part(3992, 4000, true)}, part(3992, 4000, false), false},
		{[]api.Packet{part(0, 32, true)}, part(24, 31, false), true},
		{[]api.Packet{part(0, 32, true)}, part(8, 16, false), true},
		{[]api.Packet{part(32, 40, true), part(16, 24, true)}, part(24, 32, false), true},
		{[]api.Packet{part(32, 40, true), part(8, 16, true)}, part(24, 25, false), true},
	} {
		x := reassembly.New()
		kept(t, x, 0, c.before...)
		_, bytes := x.Sizes()
		if c.conflict {
			refused(t, x, 0, c.next)
			refused(t, x, 1, c.before...)
			refused(t, x, 2, c.next, part(0, 8, true), part(8, 9, false), part(3992, 4000, true))
			sizes(t, x, 1, 0)
			tick(t, x, 30)
		} else {
			kept(t, x, 0, c.next)
			if _, more := x.Sizes(); more < bytes {
				t.Errorf("%d bytes, and then %d", bytes, more)
			}
			kept(t, x, 0, c.before...)
			sizes(t, x, 1, coverage(append(c.before, c.next)))
		}
		if t.Failed() {
			t.Fatalf("case %d", i)
		}
	}
}

// coverage returns how many bytes fragments cover.
func coverage(fragments []api.Packet) int {
	covered := map[int]bool{}
	for _, p := range fragments {
		for at := range len(p.S) {
			covered[p.Off+at] = true
		}
	}
	return len(covered)
}

// TestConflictLate: P7.1, a fragment that would complete the datagram completes nothing if it conflicts.
func TestConflictLate(t *testing.T) {
	x := reassembly.New()
	kept(t, x, 0, part(0, 16, true), part(24, 28, false))
	refused(t, x, 0, spoilt(part(8, 24, true), 15))
	sizes(t, x, 1, 0)
	refused(t, x, 0, part(16, 24, true), part(8, 24, true), part(0, 16, true), part(24, 28, false))
	sizes(t, x, 1, 0)
}

// TestRejected: P7.1 and P7.2, a rejected datagram refuses all fragments until it expires, is not returned then, and can come again.
func TestRejected(t *testing.T) {
	x := reassembly.New()
	kept(t, x, 0, part(0, 8, true))
	refused(t, x, 3, spoilt(part(0, 8, true), 7))
	for now, p := range []api.Packet{part(0, 8, true), part(8, 16, true), part(8, 9, false), part(16, 24, true), spoilt(part(0, 8, true), 7), part(3992, 4000, false)} {
		refused(t, x, now, p, with(1, p), with(255, p))
		sizes(t, x, 1, 0)
		tick(t, x, 29)
	}
	completed(t, x, 29, whole(20), whole(20))
	// Others are not concerned.
	kept(t, x, 29, of(2, part(0, 8, true)))
	sizes(t, x, 2, 8)
	tick(t, x, 30)
	sizes(t, x, 1, 8)
	kept(t, x, 30, part(0, 8, true))
	sizes(t, x, 2, 16)
	completed(t, x, 31, part(8, 10, false), whole(10))
	completed(t, x, 32, of(2, part(8, 10, false)), of(2, whole(10)))
	sizes(t, x, 0, 0)
	// Once completed, a datagram is neither known nor in conflict any more.
	kept(t, x, 32, spoilt(part(0, 8, true), 0))
	completed(t, x, 33, part(8, 9, false), spoilt(whole(9), 0))
}
