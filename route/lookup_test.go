package route_test

import (
	"math"
	"slices"
	"testing"

	"stagepost/api"
	"stagepost/route"
)

// looked checks what Lookup answers for a destination.
func looked(t *testing.T, f []api.Interface, r []api.Route, to, face, next int, e api.Errno) {
	t.Helper()
	if gotFace, gotNext, gotE := route.Lookup(f, r, to); gotFace != face || gotNext != next || gotE != e {
		t.Errorf("Lookup(%+v, %+v, %d) = %d, %d, %d; want %d, %d, %d", f, r, to, gotFace, gotNext, gotE, face, next, e)
	}
}

// found checks that a destination is reached through a router, or directly if there is no word for one.
func found(t *testing.T, f []api.Interface, r []api.Route, to string, face int, via string) {
	t.Helper()
	if via == "" {
		via = to
	}
	looked(t, f, r, at(to), face, at(via), api.OK)
}

// lost checks that no route contains a destination.
func lost(t *testing.T, f []api.Interface, r []api.Route, to string) {
	t.Helper()
	looked(t, f, r, at(to), 0, 0, api.ErrNoRoute)
}

// TestLookupExamples: P9.2, the document's examples, with the routes in either order.
func TestLookupExamples(t *testing.T) {
	f := []api.Interface{good}
	r := []api.Route{way("0.0.0.0/0", "10.0.0.254", 0), way("10.9.0.0/16", "10.0.0.9", 0)}
	for range 2 {
		found(t, f, r, "10.0.0.7", 0, "")
		found(t, f, r, "10.9.1.1", 0, "10.0.0.9")
		found(t, f, r, "8.8.8.8", 0, "10.0.0.254")
		slices.Reverse(r)
	}
}

// apart are interfaces with Nets that are disjoint.
func apart() []api.Interface {
	return []api.Interface{good, face("10.1.0.1", "10.1.0.0/16"), face("10.2.0.1", "10.2.0.0/30"), face("172.16.0.1", "172.16.0.0/12")}
}

// TestLookupConnected: P9.2, one to four interfaces without routes: the ends of each Net, and the addresses just outside.
func TestLookupConnected(t *testing.T) {
	for count := 1; count <= 4; count++ {
		for _, r := range [][]api.Route{nil, {}} {
			for i, c := range []struct{ before, first, last, after string }{
				{"9.255.255.255", "10.0.0.0", "10.0.0.255", "10.0.1.0"}, {"10.0.255.255", "10.1.0.0", "10.1.255.255", "10.2.0.4"}, {"10.3.0.0", "10.2.0.0", "10.2.0.3", "10.2.0.4"}, {"172.15.255.255", "172.16.0.0", "172.31.255.255", "172.32.0.0"},
			} {
				f := apart()[:count]
				lost(t, f, r, c.before)
				lost(t, f, r, c.after)
				for _, to := range []string{c.first, c.last} {
					if i < count {
						found(t, f, r, to, i, "")
					} else {
						lost(t, f, r, to)
					}
				}
			}
		}
	}
}

// TestLookupBehindRoutes: P9.2, destinations behind one and behind several routes, and those that only a default route contains.
func TestLookupBehindRoutes(t *testing.T) {
	r := []api.Route{way("192.168.0.0/16", "10.1.0.9", 1), way("192.168.7.0/24", "10.2.0.2", 2), way("192.168.7.128/25", "", 3), way("192.168.7.129/32", "10.0.0.9", 0)}
	for count := range r {
		f, some := apart(), r[:count]
		lost(t, f, some, "192.167.255.255")
		lost(t, f, some, "192.169.0.0")
		lost(t, f, some, "8.8.8.8")
		found(t, f, some, "10.2.0.2", 2, "")
		found(t, f, some, "172.16.0.9", 3, "")
	}
	lost(t, apart(), nil, "192.168.7.1")
	f := apart()
	found(t, f, r[:1], "192.168.7.129", 1, "10.1.0.9")
	found(t, f, r[:2], "192.168.7.129", 2, "10.2.0.2")
	found(t, f, r[:3], "192.168.7.129", 3, "")
	found(t, f, r, "192.168.7.129", 0, "10.0.0.9")
	for range 2 {
		found(t, f, r, "192.168.0.0", 1, "10.1.0.9")
		found(t, f, r, "192.168.255.255", 1, "10.1.0.9")
		found(t, f, r, "192.168.7.0", 2, "10.2.0.2")
		found(t, f, r, "192.168.7.127", 2, "10.2.0.2")
		found(t, f, r, "192.168.7.128", 3, "")
		found(t, f, r, "192.168.7.130", 3, "")
		found(t, f, r, "192.168.7.255", 3, "")
		found(t, f, r, "192.168.8.0", 1, "10.1.0.9")
		slices.Reverse(r)
	}
	for _, all := range [][]api.Route{append(slices.Clone(r), way("0.0.0.0/0", "10.1.0.7", 1)), append([]api.Route{way("0.0.0.0/0", "10.1.0.7", 1)}, r...)} {
		found(t, f, all, "8.8.8.8", 1, "10.1.0.7")
		found(t, f, all, "0.0.0.1", 1, "10.1.0.7")
		found(t, f, all, "255.255.255.254", 1, "10.1.0.7")
		found(t, f, all, "192.169.0.0", 1, "10.1.0.7")
		found(t, f, all, "192.168.7.1", 2, "10.2.0.2")
		found(t, f, all, "10.0.0.7", 0, "")
	}
	found(t, f, []api.Route{way("0.0.0.0/0", "", 2)}, "8.8.8.8", 2, "")
}

// TestLookupFaceOrRoute: P9.2, a route with more, equal and fewer bits than the Net of an interface that contains the destination, with Via and without.
func TestLookupFaceOrRoute(t *testing.T) {
	f := []api.Interface{face("10.9.0.1", "10.9.0.0/16"), good}
	for _, net := range []string{"10.0.0.0/25", "10.0.0.7/32", "10.0.0.6/31"} {
		found(t, f, []api.Route{way(net, "10.9.0.2", 0)}, "10.0.0.7", 0, "10.9.0.2")
		found(t, f, []api.Route{way(net, "", 0)}, "10.0.0.7", 0, "")
		found(t, f, []api.Route{way(net, "10.0.0.9", 1)}, "10.0.0.7", 1, "10.0.0.9")
		found(t, f, []api.Route{way(net, "", 1)}, "10.0.0.7", 1, "")
	}
	for _, net := range []string{"10.0.0.0/24", "10.0.0.0/23", "10.0.0.0/8", "0.0.0.0/0"} {
		for _, r := range []api.Route{way(net, "10.9.0.2", 0), way(net, "", 0), way(net, "10.0.0.9", 1), way(net, "", 1)} {
			found(t, f, []api.Route{r}, "10.0.0.7", 1, "")
			found(t, f, []api.Route{r, r}, "10.0.0.7", 1, "")
		}
	}
	// The same bits, but another address: only one of both contains the destination.
	other := []api.Route{way("10.0.1.0/24", "10.9.0.2", 0)}
	found(t, f, other, "10.0.0.7", 1, "")
	found(t, f, other, "10.0.1.7", 0, "10.9.0.2")
	lost(t, f, other, "10.0.2.7")
	// More bits, but it doesn't contain the destination.
	found(t, f, []api.Route{way("10.0.0.128/25", "10.9.0.2", 0), way("10.0.0.8/32", "10.9.0.3", 0)}, "10.0.0.7", 1, "")
}

// TestLookupAmongRoutes: P9.2, among routes with the same Net the first one is used, in either order.
func TestLookupAmongRoutes(t *testing.T) {
	a, b, c := way("8.0.0.0/8", "10.0.0.9", 0), way("8.0.0.0/8", "", 1), way("8.0.0.0/8", "10.1.0.9", 1)
	f := apart()
	for _, r := range [][]api.Route{{a, b}, {a, c}, {a, b, c}, {a, c, b}, {a, b, a}, {way("0.0.0.0/0", "", 2), a, c}, {a, way("0.0.0.0/0", "", 2), c}} {
		found(t, f, r, "8.8.8.8", 0, "10.0.0.9")
	}
	for _, r := range [][]api.Route{{b, a}, {b, c}, {b, a, c}, {b, c, a}, {b, a, b}, {way("9.0.0.0/8", "10.0.0.9", 0), b, a}} {
		found(t, f, r, "8.8.8.8", 1, "")
	}
	for _, r := range [][]api.Route{{c, a}, {c, b}, {c, b, a}, {c, a, b}, {c, c, a}} {
		found(t, f, r, "8.8.8.8", 1, "10.1.0.9")
	}
	// Another Net of as many bits, in front or behind, is none of them.
	for _, r := range [][]api.Route{{way("9.0.0.0/8", "", 3), a}, {a, way("9.0.0.0/8", "", 3)}} {
		found(t, f, r, "8.8.8.8", 0, "10.0.0.9")
		found(t, f, r, "9.8.8.8", 3, "")
	}
}

// TestLookupAmongFaces: P9.2, among interfaces with the same Net the first one is used, in either order, and otherwise the one with the most bits.
func TestLookupAmongFaces(t *testing.T) {
	wide, twin, deep := face("10.0.0.2", "10.0.0.0/16"), face("10.0.0.3", "10.0.0.0/24"), face("10.0.0.4", "10.0.0.0/28")
	for _, c := range []struct {
		f    []api.Interface
		to   string
		want int
	}{
		{[]api.Interface{good, twin}, "10.0.0.7", 0}, {[]api.Interface{twin, good}, "10.0.0.7", 0}, {[]api.Interface{wide, good, twin}, "10.0.0.7", 1}, {[]api.Interface{wide, twin, good}, "10.0.0.7", 1}, {[]api.Interface{twin, wide, good}, "10.0.0.7", 0},
		{[]api.Interface{good, wide}, "10.0.0.7", 0}, {[]api.Interface{wide, good}, "10.0.0.7", 1}, {[]api.Interface{wide, good}, "10.0.1.7", 0}, {[]api.Interface{good, wide}, "10.0.1.7", 1},
		{[]api.Interface{good, wide, twin, deep}, "10.0.0.7", 3}, {[]api.Interface{deep, good, wide, twin}, "10.0.0.7", 0}, {[]api.Interface{deep, wide, twin, good}, "10.0.0.16", 2}, {[]api.Interface{deep, good, twin, wide}, "10.0.1.0", 3}, {[]api.Interface{deep, wide, good, twin}, "10.0.0.15", 0},
		// The address of one interface, in the Net of another.
		{[]api.Interface{good, twin}, "10.0.0.3", 0}, {[]api.Interface{wide, good}, "10.0.0.2", 1}, {[]api.Interface{deep, good, wide}, "10.0.0.1", 0},
	} {
		found(t, c.f, nil, c.to, c.want, "")
		found(t, c.f, []api.Route{way("10.0.0.0/16", "", len(c.f)-1), way("0.0.0.0/0", "", 0)}, c.to, c.want, "")
	}
}

// TestLookupOwnAddr: P9.2, a destination that is the address of an interface is reached as any other one is.
func TestLookupOwnAddr(t *testing.T) {
	f := apart()
	for i, x := range f {
		looked(t, f, nil, x.Addr, i, x.Addr, api.OK)
		looked(t, f, []api.Route{way("0.0.0.0/0", "10.0.0.9", 0), way("10.0.0.0/8", "10.1.0.9", 1)}, x.Addr, i, x.Addr, api.OK)
		own := api.Route{Net: api.Prefix{Addr: x.Addr, Bits: 32}, Via: at("10.1.0.9"), Face: 1}
		looked(t, f, []api.Route{own}, x.Addr, 1, at("10.1.0.9"), api.OK)
	}
	f = []api.Interface{face("10.0.0.1", "10.0.0.1/32"), face("10.1.0.0", "10.1.0.0/31")}
	found(t, f, nil, "10.0.0.1", 0, "")
	found(t, f, nil, "10.1.0.0", 1, "")
	found(t, f, nil, "10.1.0.1", 1, "")
	lost(t, f, nil, "10.0.0.0")
	lost(t, f, nil, "10.0.0.2")
	lost(t, f, nil, "10.1.0.2")
}

// TestLookupEnds: P9.2, the least and the greatest destination, in Nets of 0, 31 and 32 bits, and the destination that is the router.
func TestLookupEnds(t *testing.T) {
	const least, most = "0.0.0.1", "255.255.255.254"
	all := []api.Interface{face("10.0.0.1", "0.0.0.0/0")}
	ends := []api.Interface{face(least, "0.0.0.0/31"), face(most, "255.255.255.254/31"), good}
	for _, to := range []string{least, most, "10.0.0.1", "128.0.0.0", "127.255.255.255", "0.0.0.2"} {
		found(t, all, nil, to, 0, "")
		found(t, all, []api.Route{way("0.0.0.0/0", "10.0.0.9", 0)}, to, 0, "")
		found(t, all, []api.Route{way("0.0.0.0/1", least, 0), way("128.0.0.0/1", most, 0)}, to, 0, map[bool]string{false: least, true: most}[at(to) >= 1<<31])
		found(t, []api.Interface{good}, []api.Route{way(to+"/32", "10.0.0.9", 0)}, to, 0, "10.0.0.9")
	}
	found(t, ends, nil, least, 0, "")
	found(t, ends, nil, most, 1, "")
	lost(t, ends, nil, "0.0.0.2")
	lost(t, ends, nil, "255.255.255.253")
	found(t, ends, []api.Route{way("0.0.0.1/32", "10.0.0.9", 2), way("255.255.255.254/31", "10.0.0.9", 2)}, least, 2, "10.0.0.9")
	found(t, ends, []api.Route{way("0.0.0.1/32", "10.0.0.9", 2), way("255.255.255.254/31", "10.0.0.9", 2)}, most, 1, "")
	found(t, []api.Interface{good}, []api.Route{way("10.0.0.9/32", "10.0.0.9", 0)}, "10.0.0.9", 0, "10.0.0.9")
	for bits := range 33 {
		to := at("170.170.170.170")
		net := api.Prefix{Addr: to >> (32 - bits) << (32 - bits), Bits: bits}
		outside := to ^ 1<<(32-max(bits, 1))
		f := []api.Interface{good, {Mac: 1, Addr: to, Net: net, Mtu: 68}}
		looked(t, f, nil, to, 1, to, api.OK)
		looked(t, f[:1], []api.Route{{Net: net, Via: at("10.0.0.9")}}, to, 0, at("10.0.0.9"), api.OK)
		if bits > 0 {
			looked(t, f, nil, outside, 0, 0, api.ErrNoRoute)
			looked(t, f[:1], []api.Route{{Net: net, Via: at("10.0.0.9")}}, outside, 0, 0, api.ErrNoRoute)
		}
	}
}

// TestLookupFullTables: P9.2, four interfaces and 16 routes, of which each is found in its place.
func TestLookupFullTables(t *testing.T) {
	f := apart()
	var r []api.Route
	for i := range 16 {
		r = append(r, api.Route{Net: api.Prefix{Addr: at("20.0.0.0") + i<<16, Bits: 16 + i}, Via: at("10.1.0.2") + i, Face: 1})
	}
	for range 2 {
		for i := range 16 {
			last := i + 1<<(16-i) - 1 - i
			looked(t, f, r, at("20.0.0.0")+i<<16, 1, at("10.1.0.2")+i, api.OK)
			looked(t, f, r, at("20.0.0.0")+i<<16+last, 1, at("10.1.0.2")+i, api.OK)
			if i > 0 {
				looked(t, f, r, at("20.0.0.0")+i<<16+last+1, 0, 0, api.ErrNoRoute)
			}
		}
		found(t, f, r, "10.0.0.9", 0, "")
		found(t, f, r, "172.16.0.9", 3, "")
		slices.Reverse(r)
	}
}

// TestLookupWrongDestination: P9.2, destinations that are not unicast, with candidates and without.
func TestLookupWrongDestination(t *testing.T) {
	everything := []api.Route{way("0.0.0.0/0", "10.0.0.9", 0), way("0.0.0.0/32", "10.0.0.9", 0), way("255.255.255.255/32", "", 0)}
	for _, to := range append([]int{0, api.All, at("10.0.0.7") + 1<<32, at("10.0.0.7") - 1<<32}, far...) {
		looked(t, []api.Interface{good}, nil, to, 0, 0, api.ErrRoute)
		looked(t, []api.Interface{good}, everything, to, 0, 0, api.ErrRoute)
		looked(t, []api.Interface{face("10.0.0.1", "0.0.0.0/0")}, everything, to, 0, 0, api.ErrRoute)
		looked(t, neighbours(), everything, to, 0, 0, api.ErrRoute)
	}
}

// TestLookupErrorsInOrder: P9.2, ErrRoute comes before ErrNoRoute, whatever is wrong.
func TestLookupErrorsInOrder(t *testing.T) {
	f, r := []api.Interface{good}, []api.Route{way("10.9.0.0/16", "10.0.0.9", 0)}
	wrongFace, wrongRoute := []api.Interface{face("10.0.0.1", "10.0.0.1/24")}, []api.Route{way("10.9.0.0/16", "10.9.0.9", 0)}
	for _, to := range []int{at("8.8.8.8"), at("10.0.0.7"), 0, api.All, -1, 1 << 32, math.MinInt, math.MaxInt} {
		looked(t, wrongFace, r, to, 0, 0, api.ErrRoute)
		looked(t, f, wrongRoute, to, 0, 0, api.ErrRoute)
		looked(t, wrongFace, wrongRoute, to, 0, 0, api.ErrRoute)
		looked(t, nil, nil, to, 0, 0, api.ErrRoute)
		looked(t, f, slices.Repeat(r, 17), to, 0, 0, api.ErrRoute)
		// A valid route contains the destination, and another one is wrong.
		looked(t, f, append([]api.Route{way("0.0.0.0/0", "", 0)}, wrongRoute...), to, 0, 0, api.ErrRoute)
		looked(t, f, append(slices.Clone(wrongRoute), way("0.0.0.0/0", "", 0)), to, 0, 0, api.ErrRoute)
	}
	lost(t, f, r, "8.8.8.8")
	lost(t, f, nil, "8.8.8.8")
}

// TestArgumentsStay: R3, no call changes the lists, nor what is behind them in memory.
func TestArgumentsStay(t *testing.T) {
	faces, routes := append(neighbours(), good, good), validRoutes()
	keptFaces, keptRoutes := slices.Clone(faces), slices.Clone(routes)
	for count := range 5 {
		for _, many := range []int{0, 1, 5, 16, 17} {
			f, r := faces[:count], routes[:many]
			for _, to := range []int{at("10.0.0.7"), at("8.8.8.8"), at("10.9.1.1"), at("10.0.0.1"), 1, 0, -1} {
				route.Check(f, r)
				route.Lookup(f, r, to)
				route.IsLocal(f, to)
			}
		}
	}
	if !slices.Equal(faces, keptFaces) || !slices.Equal(routes, keptRoutes) {
		t.Error("a call has changed its arguments")
	}
}
