package route_test

import (
	"encoding/binary"
	"math"
	"math/rand/v2"
	"net/netip"
	"slices"
	"testing"

	"stagepost/api"
	"stagepost/route"
)

// library returns the library's form of a, if a is an address.
func library(a int) (netip.Addr, bool) {
	if a < 0 || a > api.All {
		return netip.Addr{}, false
	}
	return netip.AddrFrom4([4]byte(binary.BigEndian.AppendUint32(nil, uint32(a)))), true
}

// network returns the library's form of n, if n is a valid prefix.
func network(n api.Prefix) (netip.Prefix, bool) {
	a, ok := library(n.Addr)
	p := netip.PrefixFrom(a, n.Bits)
	return p, ok && p.IsValid() && p == p.Masked()
}

// holds reports whether a is in the valid prefix n.
func holds(n api.Prefix, a int) bool {
	p, valid := network(n)
	x, ok := library(a)
	return valid && ok && p.Contains(x)
}

func unicast(a int) bool { return a >= 1 && a <= 4294967294 }

func modelFace(f api.Interface) bool {
	return f.Mac >= 1 && f.Mac <= 65534 && unicast(f.Addr) && holds(f.Net, f.Addr) && f.Mtu >= 68 && f.Mtu <= 1024
}

func modelRoute(f []api.Interface, r api.Route) bool {
	if _, valid := network(r.Net); !valid || r.Face < 0 || r.Face >= len(f) {
		return false
	}
	if r.Via == 0 {
		return true
	}
	local := slices.ContainsFunc(f, func(x api.Interface) bool { return x.Addr == r.Via })
	return unicast(r.Via) && holds(f[r.Face].Net, r.Via) && !local
}

// modelCheck reports whether the tables are valid, worked out without the package.
func modelCheck(f []api.Interface, r []api.Route) bool {
	seen := map[int]bool{}
	for _, x := range f {
		if seen[x.Addr] || !modelFace(x) {
			return false
		}
		seen[x.Addr] = true
	}
	for _, x := range r {
		if !modelRoute(f, x) {
			return false
		}
	}
	return len(f) >= 1 && len(f) <= 4 && len(r) <= 16
}

// modelLookup goes through the lengths of prefixes from the greatest one down, and takes what it finds first.
func modelLookup(f []api.Interface, r []api.Route, to int) (int, int, api.Errno) {
	if !modelCheck(f, r) || !unicast(to) {
		return 0, 0, api.ErrRoute
	}
	for bits := 32; bits >= 0; bits-- {
		for i, x := range f {
			if x.Net.Bits == bits && holds(x.Net, to) {
				return i, to, api.OK
			}
		}
		for _, x := range r {
			if x.Net.Bits != bits || !holds(x.Net, to) {
				continue
			}
			if x.Via == 0 {
				return x.Face, to, api.OK
			}
			return x.Face, x.Via, api.OK
		}
	}
	return 0, 0, api.ErrNoRoute
}

// world gives random tables of one manner: its addresses are near to few places, so that many Nets contain the same ones.
type world struct {
	*rand.Rand
	places []int
	spread int
}

func newWorld(r *rand.Rand) world {
	w := world{Rand: r, spread: []int{4, 16, 300, 1 << 20}[r.IntN(4)]}
	for range 1 + r.IntN(4) {
		w.places = append(w.places, []int{int(r.Uint32()), int(r.Uint32()), 0, api.All, at("10.0.0.0"), 1 << 31}[r.IntN(6)])
	}
	return w
}

// address returns an address near to one of the places.
func (w world) address() int {
	a := w.places[w.IntN(len(w.places))] + w.IntN(2*w.spread+1) - w.spread
	return min(max(a, 0), api.All)
}

// net returns a valid prefix that a is in; there are few lengths, so that many are the same.
func (w world) net(a int) api.Prefix {
	bits := []int{0, 1, 8, 16, 24, 24, 28, 29, 30, 31, 32, w.IntN(33)}[w.IntN(12)]
	return api.Prefix{Addr: a >> (32 - bits) << (32 - bits), Bits: bits}
}

// near returns an address in the valid prefix n, or one that is near to it.
func (w world) near(n api.Prefix) int {
	size := 1 << (32 - n.Bits)
	return n.Addr + []int{w.IntN(size), w.IntN(size), 0, 1 % size, size - 1, w.IntN(3*size) - size}[w.IntN(6)]
}

// faces returns up to four interfaces, or sometimes up to six; most of the lists are valid.
func (w world) faces() []api.Interface {
	var f []api.Interface
	count := 1 + w.IntN(4)
	if w.IntN(40) == 0 {
		count = w.IntN(7)
	}
	for range count {
		a := w.address()
		f = append(f, api.Interface{Mac: 1 + w.IntN(65534), Addr: a, Net: w.net(a), Mtu: 68 + w.IntN(957)})
	}
	return f
}

// routes returns some routes for the interfaces, most of them valid.
func (w world) routes(f []api.Interface) []api.Route {
	var r []api.Route
	for range w.IntN(18) {
		x := api.Route{Net: w.net(w.address()), Face: w.IntN(max(len(f), 1))}
		if len(f) > 0 && w.IntN(3) > 0 {
			x.Via = w.near(f[x.Face].Net)
			// Otherwise few of the longer lists would be valid.
			if w.IntN(20) > 0 && !modelRoute(f, x) {
				x.Via = 0
			}
		}
		r = append(r, x)
	}
	return r
}

// spoil changes one int of the tables to one that may be wrong.
func (w world) spoil(f []api.Interface, r []api.Route) {
	values := []int{0, 1, 33, 67, 68, 1024, 1025, 65534, 65535, api.All - 1, api.All, api.All + 1, math.MinInt, math.MaxInt, -1, w.address(), int(w.Uint64())}
	v := values[w.IntN(len(values))]
	if len(f) > 0 && (len(r) == 0 || w.IntN(2) == 0) {
		x := &f[w.IntN(len(f))]
		*[]*int{&x.Mac, &x.Addr, &x.Net.Addr, &x.Net.Bits, &x.Mtu}[w.IntN(5)] = v
	} else if len(r) > 0 {
		x := &r[w.IntN(len(r))]
		*[]*int{&x.Net.Addr, &x.Net.Bits, &x.Via, &x.Face}[w.IntN(4)] = v
	}
}

// destination returns an address to be looked up, near to what is in the tables.
func (w world) destination(f []api.Interface, r []api.Route) int {
	switch k := w.IntN(8); {
	case k == 0 && len(f) > 0:
		return f[w.IntN(len(f))].Addr
	case k == 1 && len(r) > 0:
		return r[w.IntN(len(r))].Via
	case k == 2:
		return []int{0, 1, api.All - 1, api.All, -1, api.All + 1, math.MinInt, math.MaxInt}[w.IntN(8)]
	case k == 3:
		return int(w.Uint32())
	}
	return w.address()
}

// TestAgainstModel: P9.1 and P9.2, random tables of every manner, some of them wrong.
func TestAgainstModel(t *testing.T) {
	random := rand.New(rand.NewPCG(9, 1))
	counts := map[api.Errno]int{}
	valid, through := 0, 0
	for range 30000 {
		w := newWorld(random)
		f := w.faces()
		r := w.routes(f)
		if w.IntN(4) == 0 {
			w.spoil(f, r)
		}
		ok := modelCheck(f, r)
		if ok {
			valid++
		}
		if got := route.Check(f, r); got != (map[bool]api.Errno{false: api.ErrRoute, true: api.OK})[ok] {
			t.Fatalf("Check(%+v, %+v) = %d", f, r, got)
		}
		for _, x := range f {
			if got := route.ValidInterface(x); got != modelFace(x) {
				t.Fatalf("ValidInterface(%+v) = %v", x, got)
			}
		}
		for range 10 {
			to := w.destination(f, r)
			face, next, e := modelLookup(f, r, to)
			looked(t, f, r, to, face, next, e)
			counts[e]++
			if e == api.OK && next != to {
				through++
			}
		}
		if t.Failed() {
			return
		}
	}
	if valid < 8000 || valid > 22000 || counts[api.OK] < 40000 || counts[api.ErrNoRoute] < 4000 || counts[api.ErrRoute] < 40000 || through < 10000 {
		t.Errorf("of 30000 tables, %d are valid; lookups ended with %v, and %d go through a router", valid, counts, through)
	}
}

// someValid returns random tables that are valid, with a world in which they are.
func someValid(r *rand.Rand) (world, []api.Interface, []api.Route) {
	for {
		w := newWorld(r)
		f := w.faces()
		if routes := w.routes(f); modelCheck(f, routes) {
			return w, f, routes
		}
	}
}

// TestConnectedIsDirect: P9.3, a destination in the Net of an interface is reached directly on it, unless a longer Net contains it too.
func TestConnectedIsDirect(t *testing.T) {
	random := rand.New(rand.NewPCG(9, 2))
	direct, behind := 0, 0
	for range 10000 {
		w, f, r := someValid(random)
		i := w.IntN(len(f))
		to := w.near(f[i].Net)
		if !unicast(to) || !holds(f[i].Net, to) {
			continue
		}
		longest := f[i].Net.Bits
		for _, x := range f {
			if holds(x.Net, to) {
				longest = max(longest, x.Net.Bits)
			}
		}
		longer := slices.ContainsFunc(r, func(x api.Route) bool { return x.Net.Bits > longest && holds(x.Net, to) })
		face, next, e := route.Lookup(f, r, to)
		if e != api.OK {
			t.Fatalf("Lookup(%+v, %+v, %d) = error %d", f, r, to, e)
		}
		if longer {
			behind++
			continue
		}
		direct++
		if next != to || f[face].Net.Bits != longest || !holds(f[face].Net, to) {
			t.Fatalf("Lookup(%+v, %+v, %d) = %d, %d; want it reached directly", f, r, to, face, next)
		}
	}
	if direct < 2000 || behind < 300 {
		t.Errorf("%d destinations are reached directly, and %d by a longer route", direct, behind)
	}
}

// firsts returns the routes without those whose Net an earlier one has.
func firsts(r []api.Route) []api.Route {
	var out []api.Route
	for _, x := range r {
		if !slices.ContainsFunc(out, func(y api.Route) bool { return y.Net == x.Net }) {
			out = append(out, x)
		}
	}
	return out
}

// TestOrderOfRoutes: P9.3, the order of routes with distinct Nets changes nothing, and later ones with the same Net are as if they weren't there.
func TestOrderOfRoutes(t *testing.T) {
	random := rand.New(rand.NewPCG(9, 3))
	moved, dropped := 0, 0
	for range 5000 {
		w, f, r := someValid(random)
		distinct := firsts(r)
		mixed := slices.Clone(distinct)
		w.Shuffle(len(mixed), func(i, j int) { mixed[i], mixed[j] = mixed[j], mixed[i] })
		if !slices.Equal(mixed, distinct) {
			moved++
		}
		if len(distinct) < len(r) {
			dropped++
		}
		for range 10 {
			to := w.destination(f, r)
			face, next, e := route.Lookup(f, r, to)
			looked(t, f, distinct, to, face, next, e)
			looked(t, f, mixed, to, face, next, e)
		}
		if t.Failed() {
			return
		}
	}
	if moved < 2000 || dropped < 1000 {
		t.Errorf("of 5000 lists, %d were in another order, and %d had equal Nets", moved, dropped)
	}
}
