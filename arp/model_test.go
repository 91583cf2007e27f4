package arp_test

import (
	"math"
	"math/big"
	"math/rand/v2"
	"slices"
	"strconv"
	"strings"
	"testing"

	"stagepost/api"
	"stagepost/arp"
)

// model is a table worked out without the package: a list of entries, whose ages are whole numbers of any size.
type model struct {
	list      []modelEntry
	announced []int
}

// modelEntry is an entry; its MAC is 0 as long as it is incomplete.
type modelEntry struct {
	to, mac      int
	packets      []string
	asked        []int
	solved, used int
}

// aged reports whether now is at least that many ticks after a time.
func aged(now, since, ticks int) bool {
	age := new(big.Int).Sub(big.NewInt(int64(now)), big.NewInt(int64(since)))
	return age.Cmp(big.NewInt(int64(ticks))) >= 0
}

// place returns where the entry of an address is in the list, or -1.
func (m *model) place(to int) int {
	return slices.IndexFunc(m.list, func(e modelEntry) bool { return e.to == to })
}

// victim returns where the entry to evict is in the list.
func (m *model) victim() int {
	best := 0
	rank := func(e modelEntry) [3]int {
		if e.mac == 0 {
			return [3]int{0, e.asked[0], e.to}
		}
		return [3]int{1, e.used, e.to}
	}
	for i, e := range m.list {
		a, b := rank(e), rank(m.list[best])
		if slices.Compare(a[:], b[:]) < 0 {
			best = i
		}
	}
	return best
}

func (m *model) send(now, to int, s string) (int, []api.ARPPacket, api.Errno) {
	if to < 1 || to > 4294967294 || to == own || len(s) > 1024 {
		return 0, nil, api.ErrArp
	}
	i := m.place(to)
	switch {
	case i < 0:
		if len(m.list) == 16 {
			m.list = slices.Delete(m.list, m.victim(), m.victim()+1)
		}
		m.list = append(m.list, modelEntry{to: to, packets: []string{s}, asked: []int{now}})
		return 0, asks(to), api.OK
	case m.list[i].mac == 0:
		all := append(m.list[i].packets, s)
		m.list[i].packets = all[max(0, len(all)-4):]
		return 0, nil, api.OK
	default:
		m.list[i].used = now
		return m.list[i].mac, nil, api.OK
	}
}

func (m *model) receive(now int, a api.ARPPacket) ([]api.ARPPacket, []api.HeldPacket) {
	if !arp.Valid(a) || a.From == own && a.FromMac == mac {
		return nil, nil
	}
	if a.From == own {
		if n := len(m.announced); n > 0 && !aged(now, m.announced[n-1], 10) {
			return nil, nil
		}
		m.announced = append(m.announced, now)
		return asks(own), nil
	}
	if a.To != own {
		return nil, nil
	}
	var said []api.ARPPacket
	if a.Op == 1 {
		said = answer(a.From, a.FromMac)
	}
	i := m.place(a.From)
	if i < 0 || m.list[i].mac != 0 {
		return said, nil
	}
	packets := m.list[i].packets
	m.list[i] = modelEntry{to: a.From, mac: a.FromMac, solved: now, used: now}
	return said, held(a.From, a.FromMac, packets...)
}

func (m *model) tick(now int) ([]api.ARPPacket, []api.HeldPacket) {
	slices.SortFunc(m.list, func(a, b modelEntry) int { return a.to - b.to })
	var said []api.ARPPacket
	var lost []api.HeldPacket
	var stay []modelEntry
	for _, e := range m.list {
		switch {
		case e.mac != 0 && aged(now, e.solved, 600):
			continue
		case e.mac == 0 && aged(now, e.asked[len(e.asked)-1], 10):
			if len(e.asked) == 3 {
				lost = append(lost, held(e.to, 0, e.packets...)...)
				continue
			}
			e.asked = append(e.asked, now)
			said = append(said, ask(e.to))
		}
		stay = append(stay, e)
	}
	m.list = stay
	return said, lost
}

// agrees checks what can be seen of the table between calls.
func (m *model) agrees(t *testing.T, x *arp.Table, addresses []int) {
	t.Helper()
	pending := 0
	for _, e := range m.list {
		pending += len(e.packets)
	}
	sizes(t, x, len(m.list), pending)
	for _, to := range addresses {
		want := 0
		if i := m.place(to); i >= 0 {
			want = m.list[i].mac
		}
		known(t, x, to, want)
	}
}

// anyMessage returns a random message, mostly a valid one to or from one of the addresses.
func anyMessage(r *rand.Rand, addresses []int) api.ARPPacket {
	a := api.ARPPacket{Op: 1 + r.IntN(2), From: addresses[r.IntN(len(addresses))], FromMac: 1 + r.IntN(65534), To: own}
	if a.Op == 2 {
		a.ToMac = mac
	}
	switch r.IntN(12) {
	case 0:
		a.From = own
	case 1:
		a.From, a.FromMac = own, mac
	case 2:
		a.To = addresses[r.IntN(len(addresses))]
	case 3:
		wrong := wrongMessages()
		a = wrong[r.IntN(len(wrong))]
	case 4:
		a.ToMac = r.IntN(65536)
	}
	return a
}

// clock gives random times of one manner: small steps, steps of about 10, long ones, a clock that goes back too, or any ints.
func clock(r *rand.Rand) func() int {
	now := []int{0, -700, math.MinInt, 1 << 40}[r.IntN(4)]
	manner := r.IntN(5)
	return func() int {
		switch manner {
		case 0:
			now += r.IntN(3)
		case 1:
			now += 9 + r.IntN(3) - 8*r.IntN(2)
		case 2:
			now += []int{0, 1, 10, 100, 299, 300}[r.IntN(6)]
		case 3:
			now = 1000 + r.IntN(1300)
		case 4:
			return []int{math.MinInt, math.MinInt + 9, math.MinInt + 600, -1, 0, 1, 10, math.MaxInt, math.MaxInt - 10, math.MaxInt - 600}[r.IntN(10)]
		}
		return now
	}
}

// TestAgainstModel: P5.2 to P5.6, random calls of tables with few and with many addresses.
func TestAgainstModel(t *testing.T) {
	r := rand.New(rand.NewPCG(5, 2))
	for range 600 {
		x, m, time := open(t), &model{}, clock(r)
		addresses := []int{1, 2, 9, 11, 12, 255, 256, 65535, 1 << 31, api.All - 1, 3, 4, 5, 6, 7, 8, 100, 101, 102, 103, 104, 105, 106, 107}[:[]int{3, 12, 17, 24}[r.IntN(4)]]
		often := 1 + r.IntN(12)
		for range 150 {
			now := time()
			switch n := r.IntN(4 + often); {
			case n == 0:
				said, lost := m.tick(now)
				tick(t, x, now, said, lost)
			case n < 3:
				a := anyMessage(r, addresses)
				said, packets := m.receive(now, a)
				receive(t, x, now, a, said, packets)
			default:
				to, s := addresses[r.IntN(len(addresses))], strconv.Itoa(r.Int())
				if r.IntN(20) == 0 {
					to = []int{own, 0, api.All, -1, 77}[r.IntN(5)]
					s = strings.Repeat("b", 1023+r.IntN(3))
				}
				want, said, e := m.send(now, to, s)
				if got, l, f := x.Send(now, to, s); got != want || !slices.Equal(l, said) || f != e {
					t.Errorf("Send(%d, %d, %d bytes) = %d, %v, %d; want %d, %v, %d", now, to, len(s), got, l, f, want, said, e)
				}
			}
			m.agrees(t, x, addresses)
		}
		if t.Failed() {
			return
		}
	}
}

// station tells what has become of numbered packets.
type station struct {
	x    *arp.Table
	sent map[string]int // the tick of each packet that was not sent at once
	back map[string]bool
	last map[int]int // the last packet that came back, by address
}

// take checks packets that come back: each once, in order by address, with the right MAC, and in time.
func (w *station) take(t *testing.T, now int, packets []api.HeldPacket, macOf func(int) int) {
	t.Helper()
	for _, p := range packets {
		at, known := w.sent[p.S]
		number, _ := strconv.Atoi(p.S)
		if !known || w.back[p.S] || number <= w.last[p.To] || p.Mac != macOf(p.To) || now-at > 30 {
			t.Errorf("at %d, packet %v came back: sent at %d, %v; before: %v; last of its address: %d; MAC wanted: %d", now, p, at, known, w.back[p.S], w.last[p.To], macOf(p.To))
		}
		w.back[p.S], w.last[p.To] = true, number
	}
}

// bounded checks the limits of a table, and that no packet waits for more than 30 ticks.
func (w *station) bounded(t *testing.T, now int) {
	t.Helper()
	entries, pending := w.x.Sizes()
	if entries < 0 || entries > 16 || pending < 0 || pending > 4*entries {
		t.Errorf("at %d: %d entries, %d pending packets", now, entries, pending)
	}
	young := 0
	for s, at := range w.sent {
		if now-at < 30 && !w.back[s] {
			young++
		}
	}
	if pending > young {
		t.Errorf("at %d: %d pending packets, but only %d were sent in the last 30 ticks", now, pending, young)
	}
}

// TestProperties: P5.6, hosts that answer some requests and not others, with a tick in every tick: what comes back, when, and how much is kept.
func TestProperties(t *testing.T) {
	r := rand.New(rand.NewPCG(5, 3))
	for round := range 40 {
		w := &station{x: open(t), sent: map[string]int{}, back: map[string]bool{}, last: map[int]int{}}
		hosts, number, solved := 4+r.IntN(25), 0, 0
		for now := range 900 {
			said, lost := w.x.Tick(now)
			w.take(t, now, lost, func(int) int { return 0 })
			for range r.IntN(4) {
				number++
				to, s := 100+r.IntN(hosts), strconv.Itoa(number)
				before, resolved := w.x.Known(to)
				m, l, e := w.x.Send(now, to, s)
				if e != api.OK || m != before || resolved && len(l) > 0 {
					t.Errorf("Send(%d, %d) = %d, %v, %d; known before: %d", now, to, m, l, e, before)
				}
				if m == 0 {
					w.sent[s] = now
				}
				said = append(said, l...)
				w.bounded(t, now)
			}
			for _, a := range said {
				if a != ask(a.To) || a.To < 100 || a.To >= 100+hosts {
					t.Errorf("at %d: the table said %v", now, a)
				}
				if r.IntN(3) == 0 {
					continue
				}
				// The entry may have been evicted since the request was made, and then nothing comes back.
				before, _ := w.x.Known(a.To)
				m := 1 + r.IntN(65534)
				_, packets := w.x.Receive(now, told(a.To, m))
				w.take(t, now, packets, func(int) int { return m })
				if len(packets) > 0 {
					before = m
				}
				known(t, w.x, a.To, before)
				solved += len(packets)
			}
			w.unsolicited(t, r, now, hosts)
			w.bounded(t, now)
		}
		if solved == 0 || t.Failed() {
			t.Fatalf("round %d: %d packets came back with a MAC", round, solved)
		}
	}
}

// unsolicited checks that a message of an address that the table is not asking for changes no entry.
func (w *station) unsolicited(t *testing.T, r *rand.Rand, now, hosts int) {
	t.Helper()
	from := 100 + r.IntN(hosts+5)
	before, ok := w.x.Known(from)
	if !ok && from < 100+hosts {
		return
	}
	entries, pending := w.x.Sizes()
	l, h := w.x.Receive(now, told(from, 1+r.IntN(65534)))
	if len(l)+len(h) > 0 {
		t.Errorf("an unsolicited message gave %v, %v", l, h)
	}
	known(t, w.x, from, before)
	sizes(t, w.x, entries, pending)
}

// TestKeptWhileFresh: P5.6, a resolved entry goes only when it expires, or when all 16 are resolved and none was used less recently.
func TestKeptWhileFresh(t *testing.T) {
	r := rand.New(rand.NewPCG(5, 4))
	for range 20 {
		x := open(t)
		solved, used := map[int]int{}, map[int]int{}
		for now := range 1500 {
			x.Tick(now)
			for to, at := range solved {
				if _, ok := x.Known(to); ok != (now-at < 600) {
					t.Fatalf("at %d: Known(%d) = %v; resolved at %d", now, to, ok, at)
				}
				if now-at >= 600 {
					delete(solved, to)
				}
			}
			to := 100 + r.IntN(24)
			m, _, _ := x.Send(now, to, "a")
			for other := range solved {
				if _, ok := x.Known(other); ok {
					continue
				}
				// Only a new entry beside 16 resolved ones may evict this one, the least recently used.
				for _, at := range used {
					if m != 0 || len(solved) != 16 || at < used[other] {
						t.Fatalf("at %d: %d was evicted, used at %d, one of %d resolved entries, of which one was used at %d", now, other, used[other], len(solved), at)
					}
				}
				delete(solved, other)
				delete(used, other)
			}
			if m == 0 && r.IntN(4) > 0 {
				x.Receive(now, told(to, 9))
				solved[to] = now
			}
			if _, ok := solved[to]; ok {
				used[to] = now
			}
			for other := range used {
				if _, ok := solved[other]; !ok {
					delete(used, other)
				}
			}
		}
	}
}
