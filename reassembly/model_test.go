package reassembly_test

import (
	"math"
	"math/big"
	"math/rand/v2"
	"slices"
	"testing"

	"stagepost/api"
	"stagepost/ip"
	"stagepost/reassembly"
)

// model is a table worked out without the package: the datagrams in the order of their creation, each with its fragments as they came.
type model struct {
	list []half
}

type half struct {
	start     int
	rejected  bool
	fragments []api.Packet
}

// same reports whether fragments belong to the same datagram.
func same(p, q api.Packet) bool {
	return p.From == q.From && p.To == q.To && p.Proto == q.Proto && p.ID == q.ID
}

// bytes returns the bytes that have come, by their offsets.
func (h half) bytes() map[int]byte {
	all := map[int]byte{}
	if h.rejected {
		return all
	}
	for _, f := range h.fragments {
		for i := range len(f.S) {
			all[f.Off+i] = f.S[i]
		}
	}
	return all
}

// end returns where the datagram ends, or -1.
func (h half) end() int {
	for _, f := range h.fragments {
		if !f.MF {
			return f.Off + len(f.S)
		}
	}
	return -1
}

// against reports whether a fragment conflicts with the datagram.
func (h half) against(p api.Packet) bool {
	have, end, last := h.bytes(), h.end(), p.Off+len(p.S)
	for i := range len(p.S) {
		if b, ok := have[p.Off+i]; ok && b != p.S[i] {
			return true
		}
	}
	if end >= 0 && last > end || !p.MF && end >= 0 && last != end {
		return true
	}
	for at := range have {
		if !p.MF && at >= last {
			return true
		}
	}
	return false
}

// joined returns the datagram, if all of it has come.
func (h half) joined() (api.Packet, bool) {
	have, end := h.bytes(), h.end()
	var text []byte
	for at := range max(end, 0) {
		b, ok := have[at]
		if !ok {
			return api.Packet{}, false
		}
		text = append(text, b)
	}
	first, ok := h.first()
	first.MF, first.S = false, string(text)
	return first, ok && end >= 0
}

// first returns the first fragment with Off 0.
func (h half) first() (api.Packet, bool) {
	for _, f := range h.fragments {
		if f.Off == 0 && !h.rejected {
			return f, true
		}
	}
	return api.Packet{}, false
}

func (m *model) put(now int, p api.Packet) (api.Packet, bool, api.Errno) {
	if !ip.Valid(p) {
		return api.Packet{}, false, api.ErrIp
	}
	if p.Off == 0 && !p.MF {
		return p, true, api.OK
	}
	i := slices.IndexFunc(m.list, func(h half) bool { return same(h.fragments[0], p) })
	if i < 0 {
		m.list = append(m.list, half{start: now})
		m.list = m.list[max(0, len(m.list)-8):]
		i = len(m.list) - 1
	}
	h := &m.list[i]
	h.rejected = h.rejected || h.against(p)
	h.fragments = append(h.fragments, p)
	if h.rejected {
		return api.Packet{}, false, api.ErrOver
	}
	q, ok := h.joined()
	if !ok {
		return api.Packet{}, false, api.OK
	}
	m.list = slices.Delete(m.list, i, i+1)
	return q, true, api.OK
}

func (m *model) tick(now int) []api.Packet {
	var stay []half
	var said []api.Packet
	for _, h := range m.list {
		age := new(big.Int).Sub(big.NewInt(int64(now)), big.NewInt(int64(h.start)))
		first, ok := h.first()
		switch {
		case age.Cmp(big.NewInt(30)) < 0:
			stay = append(stay, h)
		case ok:
			said = append(said, first)
		}
	}
	m.list = stay
	return said
}

// agrees checks what can be seen of the table between calls.
func (m *model) agrees(t *testing.T, x *reassembly.Table) {
	t.Helper()
	bytes := 0
	for _, h := range m.list {
		bytes += len(h.bytes())
	}
	sizes(t, x, len(m.list), bytes)
}

// clock gives random times of one manner: small steps, steps of about 30, a clock that goes back too, or any ints.
func clock(r *rand.Rand) func() int {
	now := []int{0, -700, math.MinInt, 1 << 40}[r.IntN(4)]
	manner := r.IntN(4)
	return func() int {
		switch manner {
		case 0:
			now += r.IntN(2)
		case 1:
			now += []int{0, 0, 1, 14, 15, 16, 29, 30, 31}[r.IntN(9)]
		case 2:
			now = 1000 + r.IntN(90)
		case 3:
			return []int{math.MinInt, math.MinInt + 29, math.MinInt + 30, -1, 0, 1, 29, 30, math.MaxInt, math.MaxInt - 29, math.MaxInt - 30}[r.IntN(11)]
		}
		return now
	}
}

// anyFragment returns a random fragment of a datagram with that many bytes, mostly one that fits the others.
func anyFragment(r *rand.Rand, length, faults int) api.Packet {
	units := (length + 7) / 8
	off := 8 * r.IntN(units)
	end := min(off+8*(1+r.IntN(3)), length)
	p := part(off, end, end < length)
	p.TTL = 1 + r.IntN(255)
	switch r.IntN(faults) {
	case 0:
		p = spoilt(p, off+r.IntN(end-off))
	case 1:
		p = part(off, off+8+8*r.IntN(5), true)
	case 2:
		p = part(off, off+1+r.IntN(40), false)
	case 3:
		p.S = p.S[:r.IntN(len(p.S)+1)]
	case 4:
		p.Off += 1 - r.IntN(20)
	}
	return p
}

// TestAgainstModel: P7.1 to P7.3, random fragments, few and many keys, times of every manner, and ticks.
func TestAgainstModel(t *testing.T) {
	r := rand.New(rand.NewPCG(7, 1))
	done, gone, over := 0, 0, 0
	for range 1500 {
		x, m, time := reassembly.New(), &model{}, clock(r)
		keys, length, faults := 1+r.IntN(12), 9+r.IntN(60), 5+r.IntN(200)
		for range 120 {
			now := time()
			if r.IntN(15) == 0 {
				want := m.tick(now)
				tick(t, x, now, want...)
				gone += len(want)
			} else {
				p := anyFragment(r, length, faults)
				n := r.IntN(keys)
				p.From, p.To, p.Proto, p.ID = 5+n&1, 6+n>>1&1, 17+n>>2&1, 1+n>>3
				want, ok, e := m.put(now, p)
				answered(t, x, now, p, want, ok, e)
				if ok && p.Off > 0 {
					done++
				}
				if e == api.ErrOver {
					over++
				}
			}
			m.agrees(t, x)
		}
		if t.Failed() {
			return
		}
	}
	if done < 500 || gone < 500 || over < 500 {
		t.Errorf("only %d datagrams were completed, %d expired, and %d fragments refused", done, gone, over)
	}
}

// flight is a datagram whose fragments are on their way.
type flight struct {
	p         api.Packet
	fragments []api.Packet
	missing   []bool
	ttl       int
	left      int
}

// take notes that a fragment has arrived, and reports whether the last one missing has.
func (f *flight) take(q api.Packet) bool {
	if q.Off == 0 && f.ttl == 0 {
		f.ttl = q.TTL
	}
	for i := range len(q.S) {
		if f.missing[q.Off+i] {
			f.missing[q.Off+i] = false
			f.left--
		}
	}
	return f.left == 0
}

// newFlight returns a random datagram and its fragments, each of them fragmented again at random, in random order, with duplicates and other TTLs.
func newFlight(t *testing.T, r *rand.Rand, id int) *flight {
	t.Helper()
	b := make([]byte, 49+r.IntN(r.IntN(3900)+52))
	for i := range b {
		b[i] = byte(r.IntN(256))
	}
	p := api.Packet{From: 1 + r.IntN(3), To: 1 + r.IntN(3), Proto: r.IntN(2), TTL: 9, ID: id, S: string(b)}
	f := &flight{p: p, missing: slices.Repeat([]bool{true}, len(b)), left: len(b)}
	list, e := ip.Fragment(p, 68+r.IntN(len(b)-48))
	if e != api.OK || len(list) < 2 {
		t.Fatalf("%d bytes in %d fragments, %d", len(b), len(list), e)
	}
	for range 1 + r.IntN(2) {
		for _, q := range list {
			again, _ := ip.Fragment(q, 68+r.IntN(1000))
			f.fragments = append(f.fragments, again...)
		}
	}
	for i := range f.fragments {
		f.fragments[i].TTL = 1 + r.IntN(255)
	}
	r.Shuffle(len(f.fragments), func(i, j int) { f.fragments[i], f.fragments[j] = f.fragments[j], f.fragments[i] })
	return f
}

// TestFlights: P7.3, what ip.Fragment makes of up to eight datagrams at once, mixed up: each is whole exactly when its last missing fragment arrives.
func TestFlights(t *testing.T) {
	r := rand.New(rand.NewPCG(7, 3))
	x := reassembly.New()
	id := 0
	for round := range 400 {
		var flights []*flight
		for range 1 + r.IntN(8) {
			flights = append(flights, newFlight(t, r, id%65536))
			id++
		}
		sizes(t, x, 0, 0)
		for len(flights) > 0 {
			i := r.IntN(len(flights))
			f := flights[i]
			q := f.fragments[0]
			f.fragments = f.fragments[1:]
			if f.take(q) {
				want := f.p
				want.TTL = f.ttl
				completed(t, x, round, q, want)
				flights = slices.Delete(flights, i, i+1)
			} else {
				kept(t, x, round, q)
			}
			if n, _ := x.Sizes(); n > 8 {
				t.Errorf("the table holds %d datagrams", n)
			}
		}
		if t.Failed() {
			t.Fatalf("round %d", round)
		}
	}
	sizes(t, x, 0, 0)
}

// TestFlood: P7.3, the table is bounded, whatever comes: many datagrams that are never whole, and some that are.
func TestFlood(t *testing.T) {
	r := rand.New(rand.NewPCG(7, 4))
	x := reassembly.New()
	for now := range 20000 {
		p := anyFragment(r, 40, 9)
		p.From, p.ID = 1+r.IntN(1<<32-2), r.IntN(65536)
		if r.IntN(3) == 0 {
			p.From, p.ID = 1, r.IntN(7)
		}
		x.Put(now/4, p)
		if n, b := x.Sizes(); n < 0 || n > 8 || b < 0 || b > 8*4000 {
			t.Fatalf("the table holds %d datagrams with %d bytes", n, b)
		}
		if r.IntN(30) == 0 {
			x.Tick(now / 4)
		}
	}
	x.Tick(1 << 40)
	sizes(t, x, 0, 0)
}
