package reassembly_test

import (
	"math"
	"slices"
	"testing"

	"stagepost/api"
	"stagepost/reassembly"
)

// long is a text without a period that a multiple of 8 could hide.
var long = func() string {
	b := make([]byte, api.MaxIp)
	for i := range b {
		b[i] = byte(i*7 + i/251)
	}
	return string(b)
}()

// part returns the fragment of long from off up to end.
func part(off, end int, more bool) api.Packet {
	return api.Packet{From: 5, To: 6, Proto: 17, TTL: 9, ID: 1, Off: off, MF: more, S: long[off:end]}
}

// of returns a fragment of another datagram.
func of(id int, p api.Packet) api.Packet {
	p.ID = id
	return p
}

// with returns a fragment with another TTL.
func with(ttl int, p api.Packet) api.Packet {
	p.TTL = ttl
	return p
}

// spoilt returns a fragment whose byte at that offset of the datagram is another one.
func spoilt(p api.Packet, at int) api.Packet {
	b := []byte(p.S)
	b[at-p.Off] ^= 1
	p.S = string(b)
	return p
}

// whole returns the datagram with the first bytes of long.
func whole(length int) api.Packet {
	return api.Packet{From: 5, To: 6, Proto: 17, TTL: 9, ID: 1, S: long[:length]}
}

// short returns a packet as it is told in a failure.
func short(p api.Packet) api.Packet {
	p.S = p.S[:min(len(p.S), 9)]
	return p
}

// answered checks what Put answers.
func answered(t *testing.T, x *reassembly.Table, now int, p, want api.Packet, done bool, e api.Errno) {
	t.Helper()
	if q, ok, f := x.Put(now, p); q != want || ok != done || f != e {
		t.Errorf("Put(%d, %+v, %d bytes) = %+v, %d bytes, %v, %d; want %+v, %d bytes, %v, %d", now, short(p), len(p.S), short(q), len(q.S), ok, f, short(want), len(want.S), done, e)
	}
}

// kept checks that Put stores fragments, and that none completes a datagram.
func kept(t *testing.T, x *reassembly.Table, now int, fragments ...api.Packet) {
	t.Helper()
	for _, p := range fragments {
		answered(t, x, now, p, api.Packet{}, false, api.OK)
	}
}

// completed checks that Put returns a datagram.
func completed(t *testing.T, x *reassembly.Table, now int, p, want api.Packet) {
	t.Helper()
	answered(t, x, now, p, want, true, api.OK)
}

// refused checks that Put answers fragments with ErrOver.
func refused(t *testing.T, x *reassembly.Table, now int, fragments ...api.Packet) {
	t.Helper()
	for _, p := range fragments {
		answered(t, x, now, p, api.Packet{}, false, api.ErrOver)
	}
}

// tick checks what Tick answers.
func tick(t *testing.T, x *reassembly.Table, now int, want ...api.Packet) {
	t.Helper()
	if got := x.Tick(now); !slices.Equal(got, want) {
		t.Errorf("Tick(%d) = %d packets; want %d", now, len(got), len(want))
		for i := range min(len(got), len(want)) {
			t.Errorf("%d: %+v, %d bytes; want %+v, %d bytes", i, short(got[i]), len(got[i].S), short(want[i]), len(want[i].S))
		}
	}
}

// sizes checks what Sizes answers.
func sizes(t *testing.T, x *reassembly.Table, datagrams, bytes int) {
	t.Helper()
	if n, b := x.Sizes(); n != datagrams || b != bytes {
		t.Errorf("Sizes() = %d, %d; want %d, %d", n, b, datagrams, bytes)
	}
}

// orders returns every order of the numbers below n.
func orders(n int) [][]int {
	if n == 0 {
		return [][]int{nil}
	}
	var all [][]int
	for _, o := range orders(n - 1) {
		for at := range n {
			all = append(all, slices.Insert(slices.Clone(o), at, n-1))
		}
	}
	return all
}

// TestNew: P7.1, a new table is empty, and each is a table of its own.
func TestNew(t *testing.T) {
	x, y := reassembly.New(), reassembly.New()
	if x == nil || y == nil || x == y {
		t.Fatal("New does not return tables of their own")
	}
	sizes(t, x, 0, 0)
	tick(t, x, 0)
	tick(t, x, math.MaxInt)
	kept(t, x, 0, part(0, 8, true))
	sizes(t, x, 1, 8)
	sizes(t, y, 0, 0)
	kept(t, y, 0, part(8, 10, false))
	completed(t, x, 0, part(8, 12, false), whole(12))
	sizes(t, y, 1, 2)
	tick(t, x, 30)
	completed(t, y, 0, part(0, 8, true), whole(10))
}

// TestNil: P7.1 and P7.2, a nil table, with packets of every kind.
func TestNil(t *testing.T) {
	var x *reassembly.Table
	for _, p := range []api.Packet{{}, part(0, 8, true), part(8, 9, false), whole(0), whole(10), part(0, 7, true)} {
		answered(t, x, 0, p, api.Packet{}, false, api.ErrNil)
	}
	sizes(t, x, 0, 0)
	for _, now := range []int{math.MinInt, 0, 30, math.MaxInt} {
		tick(t, x, now)
	}
}

// TestExamples: P7.1, the examples of the chapter.
func TestExamples(t *testing.T) {
	text := func(off int, s string, more bool) api.Packet {
		return api.Packet{From: 5, To: 6, Proto: 17, TTL: 9, ID: 1, Off: off, MF: more, S: s}
	}
	x := reassembly.New()
	kept(t, x, 0, text(0, "abcdefgh", true))
	completed(t, x, 0, text(8, "ij", false), text(0, "abcdefghij", false))
	sizes(t, x, 0, 0)

	kept(t, x, 0, text(8, "ij", false))
	completed(t, x, 0, text(0, "abcdefgh", true), text(0, "abcdefghij", false))
	kept(t, x, 0, text(0, "abcdefgh", true))
	sizes(t, x, 1, 8)

	x = reassembly.New()
	kept(t, x, 0, text(0, "abcdefgh", true))
	refused(t, x, 0, text(0, "abcdefgX", true), text(8, "ij", false))
	sizes(t, x, 1, 0)
}

// TestInvalid: P7.1, a packet that is not valid changes nothing, whatever is in the table.
func TestInvalid(t *testing.T) {
	change := func(of func(*api.Packet)) api.Packet {
		p := part(8, 16, true)
		of(&p)
		return p
	}
	wrong := []api.Packet{
		{},
		change(func(p *api.Packet) { p.From = 0 }),
		change(func(p *api.Packet) { p.From = api.All }),
		change(func(p *api.Packet) { p.From = -1 }),
		change(func(p *api.Packet) { p.From += 1 << 32 }),
		change(func(p *api.Packet) { p.To = 0 }),
		change(func(p *api.Packet) { p.To = api.All + 1 }),
		change(func(p *api.Packet) { p.To = math.MinInt }),
		change(func(p *api.Packet) { p.Proto = -1 }),
		change(func(p *api.Packet) { p.Proto = 256 }),
		change(func(p *api.Packet) { p.TTL = 0 }),
		change(func(p *api.Packet) { p.TTL = 256 }),
		change(func(p *api.Packet) { p.ID = -1 }),
		change(func(p *api.Packet) { p.ID = 65536 }),
		change(func(p *api.Packet) { p.ID += 65536 }),
		change(func(p *api.Packet) { p.DF = true }),
		change(func(p *api.Packet) { p.DF, p.MF = true, false }),
		change(func(p *api.Packet) { p.DF, p.Off = true, 0 }),
		change(func(p *api.Packet) { p.Off = 4 }),
		change(func(p *api.Packet) { p.Off = -8 }),
		change(func(p *api.Packet) { p.Off = 4000 }),
		change(func(p *api.Packet) { p.Off = math.MaxInt - 7 }),
		change(func(p *api.Packet) { p.Off = math.MinInt }),
		change(func(p *api.Packet) { p.Off, p.MF, p.S = 4000, false, "a" }),
		change(func(p *api.Packet) { p.Off, p.MF, p.S = 3992, false, long[:9] }),
		change(func(p *api.Packet) { p.S = "" }),
		change(func(p *api.Packet) { p.S = long[8:15] }),
		change(func(p *api.Packet) { p.S = long[8:17] }),
		change(func(p *api.Packet) { p.MF, p.S = false, "" }),
		change(func(p *api.Packet) { p.Off, p.S = 0, "" }),
		change(func(p *api.Packet) { p.Off, p.S = 0, long+long[:8] }),
		change(func(p *api.Packet) { p.Off, p.MF, p.S = 0, false, long+"a" }),
	}
	x := reassembly.New()
	put := func(datagrams, bytes int) {
		t.Helper()
		for _, p := range wrong {
			answered(t, x, -9, p, api.Packet{}, false, api.ErrIp)
			answered(t, x, 9, p, api.Packet{}, false, api.ErrIp)
			sizes(t, x, datagrams, bytes)
		}
	}
	put(0, 0)
	kept(t, x, 0, part(0, 8, true), of(3, part(0, 8, true)))
	put(2, 16)
	refused(t, x, 0, of(3, spoilt(part(0, 8, true), 0)))
	put(2, 8)
	for id := 4; id < 10; id++ {
		kept(t, x, 0, of(id, part(8, 16, true)))
	}
	put(8, 56)
	tick(t, x, 29)
	completed(t, x, 0, part(8, 16, false), whole(16))
	tick(t, x, 30)
	put(0, 0)
}

// TestComplete: P7.1, a complete datagram is returned as it is and changes nothing, also with the key of one that is incomplete or rejected.
func TestComplete(t *testing.T) {
	all := api.Packet{From: 1, To: api.All, Proto: 255, TTL: 255, ID: 65535, DF: true, S: long}
	list := []api.Packet{whole(0), whole(1), whole(7), whole(8), whole(10), whole(16), whole(4000), with(1, whole(9)), all, {From: api.All - 1, To: 1, TTL: 1}}
	for _, p := range slices.Clone(list) {
		p.DF = !p.DF
		list = append(list, p)
	}
	x := reassembly.New()
	put := func(datagrams, bytes int) {
		t.Helper()
		for _, p := range list {
			for _, now := range []int{0, math.MinInt, math.MaxInt} {
				completed(t, x, now, p, p)
				sizes(t, x, datagrams, bytes)
			}
		}
	}
	put(0, 0)
	kept(t, x, 0, part(0, 8, true))
	put(1, 8)
	for id := 2; id < 9; id++ {
		kept(t, x, 0, of(id, part(8, 16, false)))
	}
	put(8, 64)
	completed(t, x, 0, part(8, 10, false), whole(10))
	put(7, 56)
	kept(t, x, 5, part(0, 8, true))
	refused(t, x, 5, spoilt(part(0, 8, true), 7))
	put(8, 56)
	refused(t, x, 5, part(8, 10, false))
	tick(t, x, 34)
	sizes(t, x, 1, 0)
	tick(t, x, 35)
	sizes(t, x, 0, 0)
}

// TestOrders: P7.1 and P7.3, every order of two to six fragments, each of them put again at once and after every other one.
func TestOrders(t *testing.T) {
	for _, ends := range [][]int{{8, 9}, {8, 16}, {16, 24}, {8, 3999}, {3992, 4000}, {8, 16, 17}, {8, 40, 48, 55}, {1000, 2000, 3000, 4000}, {8, 16, 24, 32, 33}, {8, 24, 48, 80, 120, 121}} {
		var fragments []api.Packet
		off := 0
		for i, end := range ends {
			fragments = append(fragments, part(off, end, i < len(ends)-1))
			off = end
		}
		for _, order := range orders(len(ends)) {
			for duplicates := range 3 {
				x := reassembly.New()
				bytes := 0
				for i, n := range order {
					p := fragments[n]
					if i == len(order)-1 {
						completed(t, x, i, p, whole(off))
						break
					}
					kept(t, x, i, p)
					bytes += len(p.S)
					for _, m := range order[max(0, i+1-duplicates) : i+1] {
						kept(t, x, i, fragments[m])
					}
					sizes(t, x, 1, bytes)
				}
				sizes(t, x, 0, 0)
				kept(t, x, 9, fragments[0])
				sizes(t, x, 1, len(fragments[0].S))
			}
		}
	}
}

// TestOverlaps: P7.1 and P7.2, every order of fragments that overlap and agree: the datagram is whole when each byte and the end have arrived, and each byte counts once.
func TestOverlaps(t *testing.T) {
	for _, fragments := range [][]api.Packet{
		{part(0, 16, true), part(8, 24, true), part(16, 26, false)},
		{part(0, 24, true), part(8, 16, true), part(16, 32, false)},
		{part(0, 8, true), part(0, 16, true), part(8, 20, false), part(16, 20, false)},
		{part(0, 32, true), part(8, 32, true), part(24, 32, false), part(8, 16, true)},
		{part(8, 33, false), part(16, 33, false), part(32, 33, false), part(0, 32, true)},
		{part(8, 40, true), part(16, 48, true), part(0, 24, true), part(40, 48, false), part(24, 32, true)},
		{part(0, 3992, true), part(8, 4000, false), part(8, 4000, true)},
	} {
		end := 0
		for _, p := range fragments {
			end = max(end, p.Off+len(p.S))
		}
		for _, order := range orders(len(fragments)) {
			x := reassembly.New()
			covered, ended := make([]bool, end), false
			for _, n := range order {
				p := fragments[n]
				for at := range len(p.S) {
					covered[p.Off+at] = true
				}
				ended = ended || !p.MF
				count := 0
				for _, c := range covered {
					if c {
						count++
					}
				}
				if ended && count == end {
					completed(t, x, 0, p, whole(end))
					sizes(t, x, 0, 0)
					break
				}
				kept(t, x, 0, p)
				sizes(t, x, 1, count)
			}
		}
	}
}

// TestLastOnly: P7.1, a last fragment alone completes nothing, however short and wherever it is.
func TestLastOnly(t *testing.T) {
	for _, end := range []int{9, 10, 15, 16, 17, 25, 1001, 3993, 3999, 4000} {
		for _, off := range []int{8, 16, (end - 1) / 8 * 8} {
			if off >= end || off == 0 {
				continue
			}
			x := reassembly.New()
			kept(t, x, 0, part(off, end, false), part(off, end, false))
			sizes(t, x, 1, end-off)
			if off > 24 {
				kept(t, x, 0, part(0, 8, true), part(16, 24, true), part(off, end, false))
				sizes(t, x, 1, end-off+16)
			}
			completed(t, x, 0, part(0, off, true), whole(end))
			sizes(t, x, 0, 0)
		}
	}
}

// TestGreatest: P7.1 and P7.3, fragments at the greatest Off, and the longest datagram in fragments of several lengths.
func TestGreatest(t *testing.T) {
	x := reassembly.New()
	kept(t, x, 0, part(3992, 4000, true))
	sizes(t, x, 1, 8)
	kept(t, x, 0, part(0, 3992, true))
	sizes(t, x, 1, 4000)
	kept(t, x, 0, part(0, 4000, true))
	sizes(t, x, 1, 4000)
	completed(t, x, 0, part(3992, 4000, false), whole(4000))
	sizes(t, x, 0, 0)
	kept(t, x, 0, part(3992, 3993, false))
	sizes(t, x, 1, 1)
	completed(t, x, 0, part(0, 3992, true), whole(3993))
	kept(t, x, 0, part(0, 3992, true))
	refused(t, x, 0, part(3984, 3991, false))
	sizes(t, x, 1, 0)
	for _, length := range []int{8, 16, 24, 56, 512, 1000, 1504, 2000, 3992} {
		for _, back := range []bool{false, true} {
			var fragments []api.Packet
			for off := 0; off < 4000; off += length {
				end := min(off+length, 4000)
				fragments = append(fragments, of(7, part(off, end, end < 4000)))
			}
			if back {
				slices.Reverse(fragments)
			}
			last := len(fragments) - 1
			kept(t, x, 0, fragments[:last]...)
			sizes(t, x, 2, 4000-len(fragments[last].S))
			completed(t, x, 0, fragments[last], of(7, whole(4000)))
			sizes(t, x, 1, 0)
		}
	}
}

// TestKeys: P7.1, datagrams whose keys differ in one field alone are two, and one whose fragments differ in TTL alone is one.
func TestKeys(t *testing.T) {
	for i, other := range []func(*api.Packet){
		func(p *api.Packet) { p.From = 7 },
		func(p *api.Packet) { p.From = api.All - 1 },
		func(p *api.Packet) { p.To = 7 },
		func(p *api.Packet) { p.To = api.All },
		func(p *api.Packet) { p.Proto = 18 },
		func(p *api.Packet) { p.Proto = 0 },
		func(p *api.Packet) { p.ID = 2 },
		func(p *api.Packet) { p.ID = 0 },
		func(p *api.Packet) { p.ID = 257 },
		func(p *api.Packet) { p.From, p.To = p.To, p.From },
	} {
		x := reassembly.New()
		first, last := part(0, 8, true), part(8, 10, false)
		first2, last2, whole2 := spoilt(part(0, 8, true), 3), part(8, 12, false), spoilt(whole(12), 3)
		other(&first2)
		other(&last2)
		other(&whole2)
		kept(t, x, 0, first, first2)
		sizes(t, x, 2, 16)
		completed(t, x, 0, last2, whole2)
		sizes(t, x, 1, 8)
		completed(t, x, 0, last, whole(10))
		kept(t, x, 0, first2, last)
		refused(t, x, 0, spoilt(first2, 0))
		completed(t, x, 0, first, whole(10))
		refused(t, x, 0, last2)
		sizes(t, x, 1, 0)
		if t.Failed() {
			t.Fatalf("key %d", i)
		}
	}
	x := reassembly.New()
	kept(t, x, 0, with(9, part(0, 8, true)), with(255, part(8, 16, true)))
	sizes(t, x, 1, 16)
	completed(t, x, 0, with(1, part(16, 20, false)), whole(20))
}

// TestFirst: P7.1 and P7.2, the datagram has the TTL of the first fragment with Off 0, and Tick returns that fragment, wherever it is among the others.
func TestFirst(t *testing.T) {
	head, later := with(77, part(0, 8, true)), with(3, part(0, 16, true))
	for i, c := range []struct {
		before, after []api.Packet
		head          api.Packet
		bytes         int
	}{
		{nil, nil, head, 8},
		{nil, []api.Packet{part(8, 16, true)}, head, 16},
		{[]api.Packet{part(8, 16, true)}, nil, head, 16},
		{[]api.Packet{part(8, 16, true)}, []api.Packet{part(16, 24, true)}, head, 24},
		{[]api.Packet{part(32, 40, true)}, []api.Packet{part(8, 16, true)}, head, 24},
		{nil, []api.Packet{later}, head, 16},
		{nil, []api.Packet{with(78, head)}, head, 8},
		{nil, []api.Packet{with(76, head), later}, head, 16},
		{nil, []api.Packet{head}, later, 16},
		{[]api.Packet{part(8, 24, true)}, []api.Packet{head, later}, with(255, later), 24},
		{[]api.Packet{with(5, part(8, 24, true))}, []api.Packet{with(200, head)}, with(1, head), 24},
	} {
		x := reassembly.New()
		fill := func() {
			kept(t, x, 0, c.before...)
			kept(t, x, 0, c.head)
			kept(t, x, 0, c.after...)
			sizes(t, x, 1, c.bytes)
		}
		fill()
		tick(t, x, 29)
		tick(t, x, 30, c.head)
		sizes(t, x, 0, 0)
		tick(t, x, 30)
		fill()
		kept(t, x, 0, with(100, part(8, 40, true)))
		completed(t, x, 0, with(100, part(40, 41, false)), with(c.head.TTL, whole(41)))
		if t.Failed() {
			t.Fatalf("case %d", i)
		}
	}
	// The first fragment with Off 0 may also be the one that completes the datagram.
	x := reassembly.New()
	kept(t, x, 0, with(1, part(8, 9, false)))
	completed(t, x, 0, with(255, part(0, 8, true)), with(255, whole(9)))
}

// TestFields: P7.1, a reassembled datagram has the key's fields and no flags, at the edges of what is valid.
func TestFields(t *testing.T) {
	for _, p := range []api.Packet{
		{From: 1, To: 1, Proto: 0, TTL: 1, ID: 0},
		{From: api.All - 1, To: api.All, Proto: 255, TTL: 255, ID: 65535},
		{From: 1 << 31, To: 1<<31 - 1, Proto: 6, TTL: 32, ID: 32768},
	} {
		x := reassembly.New()
		first, last, want := p, p, p
		first.MF, first.S = true, long[:8]
		last.Off, last.S = 8, long[8:11]
		want.S = long[:11]
		kept(t, x, 0, last)
		completed(t, x, 0, first, want)
		kept(t, x, 0, first)
		tick(t, x, 30, first)
	}
}
