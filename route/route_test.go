package route_test

import (
	"encoding/binary"
	"math"
	"net/netip"
	"slices"
	"testing"

	"stagepost/api"
	"stagepost/route"
)

// far are ints that no field of a valid table holds, and that the lower bits of a field may hide.
var far = []int{-1, -2, -7, -24, -500, -65535, -1 << 31, -1 << 32, -1<<32 + 1, 1 << 32, 1<<32 + 1, 1<<32 + 7, 1<<32 + 24, 1<<32 + 500, 1 << 33, 1 << 62, math.MaxInt - 1, math.MaxInt, math.MinInt, math.MinInt + 1, math.MinInt + 24}

// at returns the address with that dotted form.
func at(s string) int {
	b := netip.MustParseAddr(s).As4()
	return int(binary.BigEndian.Uint32(b[:]))
}

// in returns the prefix with that form, which may have bits after the first ones.
func in(s string) api.Prefix {
	p := netip.MustParsePrefix(s)
	return api.Prefix{Addr: at(p.Addr().String()), Bits: p.Bits()}
}

// face returns an interface with that address and that Net.
func face(a, net string) api.Interface {
	return api.Interface{Mac: 7, Addr: at(a), Net: in(net), Mtu: 500}
}

// way returns the route to a Net through a router, or directly if there is no word for one.
func way(net, via string, f int) api.Route {
	r := api.Route{Net: in(net), Face: f}
	if via != "" {
		r.Via = at(via)
	}
	return r
}

// good is a valid interface, of which the tests change one field or another.
var good = face("10.0.0.1", "10.0.0.0/24")

// changed returns good with some fields changed.
func changed(change func(f *api.Interface)) api.Interface {
	f := good
	change(&f)
	return f
}

// validFaces are interfaces at the edges of what is valid, each with another address.
func validFaces() []api.Interface {
	faces := []api.Interface{good}
	for i, n := range []int{1, 2, 255, 256, 32767, 32768, 65533, 65534} {
		faces = append(faces, changed(func(f *api.Interface) { f.Mac, f.Addr = n, at("10.0.0.20")+i }))
	}
	for i, n := range []int{68, 69, 255, 256, 511, 512, 1023, 1024} {
		faces = append(faces, changed(func(f *api.Interface) { f.Mtu, f.Addr = n, at("10.0.0.40")+i }))
	}
	return append(faces,
		face("10.1.0.0", "10.1.0.0/16"), face("10.2.255.255", "10.2.0.0/16"), face("10.3.0.4", "10.3.0.4/30"), face("10.3.0.11", "10.3.0.8/30"),
		face("10.4.0.2", "10.4.0.2/31"), face("10.4.0.5", "10.4.0.4/31"), face("10.5.0.1", "10.5.0.1/32"), face("10.6.0.1", "0.0.0.0/0"),
		face("127.255.255.255", "0.0.0.0/1"), face("128.0.0.0", "128.0.0.0/1"), face("0.0.0.1", "0.0.0.0/0"), face("255.255.255.254", "0.0.0.0/0"),
		face("0.0.0.2", "0.0.0.0/8"), face("0.0.0.3", "0.0.0.3/32"), face("255.255.255.253", "255.255.255.253/32"), face("255.255.255.252", "255.255.255.252/30"),
		face("255.255.255.251", "128.0.0.0/1"), face("192.168.1.77", "192.168.1.64/28"),
	)
}

// twiceValid are valid interfaces that have the address of one of validFaces.
func twiceValid() []api.Interface {
	return []api.Interface{
		face("0.0.0.1", "0.0.0.1/32"), face("0.0.0.1", "0.0.0.0/31"), face("255.255.255.254", "255.255.255.254/31"), face("255.255.255.254", "255.255.255.254/32"),
		changed(func(f *api.Interface) { f.Mac, f.Mtu = 1, 68 }), changed(func(f *api.Interface) { f.Mac, f.Mtu = 65534, 1024 }),
	}
}

// wrongFaces are interfaces of which one or more fields are not valid.
func wrongFaces() []api.Interface {
	faces := []api.Interface{{}, {Mac: 1}, {Mac: 1, Mtu: 68}, {Mac: 1, Addr: 1}, {Addr: 1, Mtu: 68}, {Mac: -1, Addr: -1, Net: api.Prefix{Addr: -1, Bits: -1}, Mtu: -1}, {Mac: 65535, Addr: api.All, Net: api.Prefix{Addr: api.All, Bits: 32}, Mtu: 1025}}
	for _, n := range append([]int{0, 65535, 65536, 65537, 131071}, far...) {
		faces = append(faces, changed(func(f *api.Interface) { f.Mac = n }))
	}
	for _, n := range append([]int{0, 1, 67, 1025, 1026, 1500, 65536 + 500}, far...) {
		faces = append(faces, changed(func(f *api.Interface) { f.Mtu = n }))
	}
	for _, n := range append([]int{0, api.All}, far...) {
		faces = append(faces, changed(func(f *api.Interface) { f.Addr = n }))
		// Nets that contain such addresses, if anything does.
		faces = append(faces, changed(func(f *api.Interface) { f.Addr, f.Net = n, in("0.0.0.0/0") }), changed(func(f *api.Interface) { f.Addr, f.Net = n, api.Prefix{Addr: n, Bits: 32} }))
	}
	for _, s := range []string{"10.0.0.1/24", "10.0.0.0/6", "10.0.0.128/24", "10.0.0.1/0", "128.0.0.0/0", "10.0.0.1/31", "10.0.0.1/8"} {
		faces = append(faces, face("10.0.0.1", s))
	}
	for _, n := range append([]int{33, 34, 64, 255, 256, 256 + 24}, far...) {
		faces = append(faces, changed(func(f *api.Interface) { f.Net.Bits = n }), changed(func(f *api.Interface) { f.Net = api.Prefix{Bits: n} }))
	}
	for _, n := range far {
		faces = append(faces, changed(func(f *api.Interface) { f.Net.Addr = n }), changed(func(f *api.Interface) { f.Net = api.Prefix{Addr: n} }))
	}
	// Ints of which the lower 32 bits are as in a valid interface.
	for _, n := range []int{1 << 32, -1 << 32, 1 << 33, 1 << 62, math.MinInt} {
		for i := range 5 {
			faces = append(faces, changed(func(f *api.Interface) { *[]*int{&f.Mac, &f.Addr, &f.Net.Addr, &f.Net.Bits, &f.Mtu}[i] += n }))
		}
	}
	for _, s := range []string{"10.0.1.0/24", "9.255.255.0/24", "10.0.0.2/32", "10.0.0.0/32", "10.0.0.2/31", "10.0.0.128/25", "11.0.0.0/8", "128.0.0.0/1", "0.0.0.1/32"} {
		faces = append(faces, face("10.0.0.1", s))
	}
	return append(faces, face("10.0.1.0", "10.0.0.0/24"), face("9.255.255.255", "10.0.0.0/24"), face("10.4.0.4", "10.4.0.2/31"), face("10.4.0.1", "10.4.0.2/31"), face("0.0.0.1", "10.0.0.0/24"))
}

// TestValidInterface: P9.1, each field at the ends of its range and just outside, and ints far outside.
func TestValidInterface(t *testing.T) {
	for _, f := range append(validFaces(), twiceValid()...) {
		if !route.ValidInterface(f) {
			t.Errorf("ValidInterface(%+v) = false", f)
		}
	}
	for _, f := range wrongFaces() {
		if route.ValidInterface(f) {
			t.Errorf("ValidInterface(%+v) = true", f)
		}
	}
}

// checked checks what Check answers, and that Lookup gives the same error.
func checked(t *testing.T, f []api.Interface, r []api.Route, want api.Errno) {
	t.Helper()
	if got := route.Check(f, r); got != want {
		t.Errorf("Check(%+v, %+v) = %d; want %d", f, r, got, want)
		return
	}
	if want == api.OK {
		return
	}
	for _, to := range []int{at("10.0.0.7"), at("10.0.0.1"), at("8.8.8.8"), 1, api.All - 1, 0, api.All, -1, math.MinInt, math.MaxInt} {
		if face, next, e := route.Lookup(f, r, to); face != 0 || next != 0 || e != want {
			t.Errorf("Lookup(%+v, %+v, %d) = %d, %d, %d; want 0, 0, %d", f, r, to, face, next, e, want)
		}
	}
}

// TestCheckFaces: P9.1, one to four valid interfaces, and wrong ones alone and at each place among others.
func TestCheckFaces(t *testing.T) {
	faces := validFaces()
	for i := range faces {
		for count := 1; count <= 4; count++ {
			checked(t, slices.Concat(faces[i:], faces)[:count], nil, api.OK)
		}
	}
	for _, f := range twiceValid() {
		checked(t, []api.Interface{f}, nil, api.OK)
	}
	for _, wrong := range wrongFaces() {
		checked(t, []api.Interface{wrong}, nil, api.ErrRoute)
		others := []api.Interface{face("10.1.0.1", "10.1.0.0/16"), face("10.2.0.1", "10.2.0.0/16"), face("10.3.0.1", "10.3.0.0/16")}
		for i := range 4 {
			checked(t, slices.Insert(slices.Clone(others), i, wrong), nil, api.ErrRoute)
			checked(t, slices.Insert(slices.Clone(others[:2]), min(i, 2), wrong), []api.Route{way("0.0.0.0/0", "", 0)}, api.ErrRoute)
		}
	}
}

// TestCheckCounts: P9.1, no interface and too many, and as many routes as there may be and more.
func TestCheckCounts(t *testing.T) {
	faces := validFaces()
	checked(t, nil, nil, api.ErrRoute)
	checked(t, []api.Interface{}, []api.Route{}, api.ErrRoute)
	checked(t, nil, []api.Route{way("0.0.0.0/0", "", 0)}, api.ErrRoute)
	for count := 1; count <= 4; count++ {
		checked(t, faces[:count], nil, api.OK)
		checked(t, faces[:count], []api.Route{}, api.OK)
		for routes := range 20 {
			want := api.OK
			if routes > 16 {
				want = api.ErrRoute
			}
			checked(t, faces[:count], slices.Repeat([]api.Route{way("0.0.0.0/0", "", count-1)}, routes), want)
		}
	}
	for count := 5; count <= 9; count++ {
		checked(t, faces[:count], nil, api.ErrRoute)
		checked(t, faces[:count], []api.Route{way("0.0.0.0/0", "", 0)}, api.ErrRoute)
	}
	for _, count := range []int{256, 257, 260, 65536 + 1, 1 << 20} {
		many := make([]api.Interface, count)
		for i := range many {
			many[i] = changed(func(f *api.Interface) { f.Addr, f.Net = i+1, api.Prefix{} })
		}
		if e := route.Check(many, nil); e != api.ErrRoute {
			t.Errorf("Check of %d interfaces = %d", count, e)
		}
		if e := route.Check(faces[:1], make([]api.Route, count)); e != api.ErrRoute {
			t.Errorf("Check of %d routes = %d", count, e)
		}
	}
}

// TestCheckSameAddr: P9.1, two interfaces with the same address, next to each other and apart, whatever else of them is the same.
func TestCheckSameAddr(t *testing.T) {
	twin := changed(func(f *api.Interface) { f.Mac, f.Mtu = 8, 600 })
	wide := changed(func(f *api.Interface) { f.Net = in("10.0.0.0/8") })
	narrow := changed(func(f *api.Interface) { f.Net = in("10.0.0.1/32") })
	b, c := face("10.1.0.1", "10.1.0.0/16"), face("10.2.0.1", "10.2.0.0/16")
	for _, same := range []api.Interface{good, twin, wide, narrow} {
		for _, f := range [][]api.Interface{{good, same}, {same, good}, {good, same, b}, {b, good, same}, {good, b, same}, {good, same, b, c}, {b, good, same, c}, {b, c, good, same}, {good, b, same, c}, {b, good, c, same}, {good, b, c, same}, {same, b, c, good}, {good, same, good, same}} {
			checked(t, f, nil, api.ErrRoute)
			checked(t, f, []api.Route{way("0.0.0.0/0", "", 0)}, api.ErrRoute)
		}
	}
	// What else may be the same: Mac, Net and Mtu.
	near := changed(func(f *api.Interface) { f.Addr = at("10.0.0.2") })
	next := changed(func(f *api.Interface) { f.Addr = at("10.0.0.0") })
	last := changed(func(f *api.Interface) { f.Addr = at("10.0.0.255") })
	checked(t, []api.Interface{good, near, next, last}, nil, api.OK)
}

// neighbours are interfaces of which two have Nets in which there are addresses of others.
func neighbours() []api.Interface {
	return []api.Interface{good, face("10.1.0.1", "10.1.0.0/16"), face("10.0.0.2", "10.0.0.0/16"), face("10.0.9.9", "0.0.0.0/0")}
}

// validRoutes are routes that are valid for neighbours.
func validRoutes() []api.Route {
	routes := []api.Route{
		way("0.0.0.0/0", "10.0.0.254", 0), way("10.9.0.0/16", "10.0.0.9", 0), way("10.0.0.0/24", "10.0.0.9", 0), way("10.0.0.9/32", "10.0.0.9", 0), way("10.0.0.8/29", "10.0.0.9", 0),
		way("10.0.0.0/24", "10.0.0.0", 0), way("10.0.0.0/24", "10.0.0.255", 0), way("8.0.0.0/8", "10.0.0.3", 0), way("10.1.0.0/16", "10.0.0.3", 0),
		way("8.0.0.0/8", "10.1.0.0", 1), way("8.0.0.0/8", "10.1.255.255", 1), way("8.0.0.0/8", "10.1.0.2", 1), way("8.0.0.0/8", "10.1.1.1", 1),
		way("8.0.0.0/8", "10.0.0.0", 2), way("8.0.0.0/8", "10.0.255.255", 2), way("8.0.0.0/8", "10.0.0.3", 2), way("8.0.0.0/8", "10.0.1.1", 2),
		way("8.0.0.0/8", "0.0.0.1", 3), way("8.0.0.0/8", "255.255.255.254", 3), way("8.0.0.0/8", "10.1.0.2", 3), way("8.0.0.0/8", "8.8.8.8", 3),
		way("0.0.0.0/32", "", 0), way("0.0.0.0/31", "", 1), way("255.255.255.255/32", "", 2), way("255.255.255.254/31", "10.0.0.3", 0), way("128.0.0.0/1", "", 3),
	}
	for i := range neighbours() {
		for _, n := range []string{"0.0.0.0/0", "0.0.0.0/1", "10.0.0.0/24", "10.0.0.1/32", "10.1.0.0/16", "172.16.0.0/12"} {
			routes = append(routes, way(n, "", i))
		}
	}
	return routes
}

// wrongRoutes are routes that are not valid for neighbours.
func wrongRoutes() []api.Route {
	routes := []api.Route{{Net: api.Prefix{Addr: -1, Bits: -1}, Via: -1, Face: -1}}
	for _, n := range append([]int{33, 34, 64, 255, 256, 256 + 16}, far...) {
		routes = append(routes, api.Route{Net: api.Prefix{Addr: at("10.9.0.0"), Bits: n}}, api.Route{Net: api.Prefix{Bits: n}, Via: at("10.0.0.9")})
	}
	for _, n := range far {
		routes = append(routes, api.Route{Net: api.Prefix{Addr: n}}, api.Route{Net: api.Prefix{Addr: n, Bits: 32}}, api.Route{Net: api.Prefix{Addr: n, Bits: 16}, Via: at("10.0.0.9")})
	}
	for _, s := range []string{"10.9.0.1/16", "10.9.128.0/16", "10.9.0.0/15", "10.9.0.1/31", "128.0.0.0/0", "0.0.0.1/0", "64.0.0.0/1", "255.255.255.255/31"} {
		routes = append(routes, way(s, "", 0), way(s, "10.0.0.9", 0), way(s, "10.1.0.2", 1))
	}
	for _, n := range append([]int{4, 5, 16, 256, 65536}, far...) {
		routes = append(routes, api.Route{Net: in("10.9.0.0/16"), Face: n}, api.Route{Net: in("10.9.0.0/16"), Via: at("10.0.0.9"), Face: n})
	}
	for i := range neighbours() {
		for _, n := range append([]int{api.All, at("10.0.0.9") + 1<<32, at("10.0.0.9") - 1<<32}, far...) {
			routes = append(routes, api.Route{Net: in("10.9.0.0/16"), Via: n, Face: i})
		}
		for _, f := range neighbours() {
			routes = append(routes, api.Route{Net: in("10.9.0.0/16"), Via: f.Addr, Face: i}, api.Route{Via: f.Addr, Face: i})
		}
	}
	for _, s := range []string{"10.0.1.0", "9.255.255.255", "10.1.0.2", "10.9.0.1", "0.0.0.1", "255.255.255.254"} {
		routes = append(routes, way("10.9.0.0/16", s, 0), way("0.0.0.0/0", s, 0))
	}
	for _, s := range []string{"10.2.0.0", "10.0.255.255", "10.0.0.9", "10.9.0.1"} {
		routes = append(routes, way("10.9.0.0/16", s, 1))
	}
	return append(routes, way("10.9.0.0/16", "10.1.0.0", 2), way("10.9.0.0/16", "9.255.255.255", 2), way("10.9.0.0/16", "10.1.0.2", 2))
}

// TestCheckRoutes: P9.1, valid routes and wrong ones alone, and at each place among others.
func TestCheckRoutes(t *testing.T) {
	valid := validRoutes()
	for i := range valid {
		checked(t, neighbours(), valid[i:i+1], api.OK)
		checked(t, neighbours(), slices.Concat(valid[i:], valid)[:16], api.OK)
	}
	for _, wrong := range wrongRoutes() {
		checked(t, neighbours(), []api.Route{wrong}, api.ErrRoute)
		for i := range 16 {
			checked(t, neighbours(), slices.Insert(slices.Clone(valid[:15]), i, wrong), api.ErrRoute)
		}
	}
}

// TestCheckRouteFace: P9.1, Face is an index into the list, however many interfaces there are.
func TestCheckRouteFace(t *testing.T) {
	for count := 1; count <= 4; count++ {
		for i := -2; i <= 6; i++ {
			want := api.ErrRoute
			if 0 <= i && i < count {
				want = api.OK
			}
			checked(t, validFaces()[:count], []api.Route{way("10.9.0.0/16", "", i)}, want)
			checked(t, validFaces()[:count], []api.Route{way("10.9.0.0/16", "10.0.0.9", i)}, want)
		}
	}
}

// TestCheckRouteVia: P9.1, the ends of the Nets of interfaces, and addresses that are in them but are no router's.
func TestCheckRouteVia(t *testing.T) {
	for _, c := range []struct {
		a, net, via string
		want        api.Errno
	}{
		{"10.0.0.1", "10.0.0.0/31", "10.0.0.0", api.OK}, {"10.0.0.1", "10.0.0.0/31", "10.0.0.1", api.ErrRoute}, {"10.0.0.1", "10.0.0.0/31", "10.0.0.2", api.ErrRoute}, {"10.0.0.1", "10.0.0.1/32", "10.0.0.1", api.ErrRoute}, {"10.0.0.1", "10.0.0.1/32", "10.0.0.0", api.ErrRoute},
		{"10.0.0.1", "10.0.0.1/32", "", api.OK}, {"10.0.0.1", "0.0.0.0/0", "0.0.0.1", api.OK}, {"10.0.0.1", "0.0.0.0/0", "255.255.255.254", api.OK}, {"10.0.0.1", "0.0.0.0/0", "255.255.255.255", api.ErrRoute}, {"10.0.0.1", "0.0.0.0/0", "10.0.0.1", api.ErrRoute},
		{"0.0.0.1", "0.0.0.0/31", "", api.OK}, {"0.0.0.1", "0.0.0.0/31", "0.0.0.1", api.ErrRoute}, {"0.0.0.1", "0.0.0.0/30", "0.0.0.2", api.OK}, {"0.0.0.1", "0.0.0.0/30", "0.0.0.3", api.OK}, {"0.0.0.1", "0.0.0.0/30", "0.0.0.4", api.ErrRoute},
		{"255.255.255.254", "255.255.255.254/31", "255.255.255.255", api.ErrRoute}, {"255.255.255.254", "255.255.255.254/31", "255.255.255.254", api.ErrRoute}, {"255.255.255.254", "255.255.255.252/30", "255.255.255.253", api.OK}, {"255.255.255.254", "255.255.255.252/30", "255.255.255.252", api.OK}, {"255.255.255.254", "255.255.255.252/30", "255.255.255.251", api.ErrRoute},
	} {
		checked(t, []api.Interface{face(c.a, c.net)}, []api.Route{way("0.0.0.0/0", c.via, 0)}, c.want)
	}
}

// TestIsLocal: P9.1, the first interface with an address, in lists of any kind.
func TestIsLocal(t *testing.T) {
	a, b, c := good, face("10.1.0.1", "10.1.0.0/16"), changed(func(f *api.Interface) { f.Mac = 8 })
	long := append(make([]api.Interface, 100000), a)
	for _, x := range []struct {
		f    []api.Interface
		a    int
		want int
		ok   bool
	}{
		{neighbours(), at("10.0.0.1"), 0, true}, {neighbours(), at("10.1.0.1"), 1, true}, {neighbours(), at("10.0.0.2"), 2, true}, {neighbours(), at("10.0.9.9"), 3, true},
		{neighbours(), at("10.0.0.0"), 0, false}, {neighbours(), at("10.0.0.3"), 0, false}, {neighbours(), at("10.0.0.255"), 0, false}, {neighbours(), at("10.1.0.2"), 0, false}, {neighbours(), at("11.0.0.1"), 0, false},
		{neighbours(), 0, 0, false}, {neighbours(), api.All, 0, false}, {neighbours(), -1, 0, false}, {neighbours(), math.MaxInt, 0, false}, {neighbours(), math.MinInt, 0, false}, {neighbours(), at("10.0.0.1") + 1<<32, 0, false}, {neighbours(), 7, 0, false}, {neighbours(), 500, 0, false}, {neighbours(), 24, 0, false},
		{nil, at("10.0.0.1"), 0, false}, {nil, 0, 0, false}, {[]api.Interface{}, at("10.0.0.1"), 0, false}, {[]api.Interface{}, 0, 0, false},
		{[]api.Interface{a, c}, a.Addr, 0, true}, {[]api.Interface{b, a, c}, a.Addr, 1, true}, {[]api.Interface{b, c, a}, a.Addr, 1, true}, {[]api.Interface{a, b, c}, a.Addr, 0, true}, {[]api.Interface{b, b, b, c, a, a}, a.Addr, 3, true},
		{[]api.Interface{{}}, 0, 0, true}, {[]api.Interface{a, {}}, 0, 1, true}, {[]api.Interface{a, {}, {}}, 0, 1, true}, {[]api.Interface{{}}, 1, 0, false},
		{[]api.Interface{a, {Addr: -1}, {Addr: api.All}}, -1, 1, true}, {[]api.Interface{a, {Addr: -1}, {Addr: api.All}}, api.All, 2, true}, {[]api.Interface{a, {Addr: math.MinInt}, {Addr: math.MaxInt}}, math.MinInt, 1, true}, {[]api.Interface{a, {Addr: math.MinInt}, {Addr: math.MaxInt}}, math.MaxInt, 2, true},
		{long, a.Addr, 100000, true}, {long, 0, 0, true}, {long, b.Addr, 0, false},
	} {
		if got, ok := route.IsLocal(x.f, x.a); got != x.want || ok != x.ok {
			t.Errorf("IsLocal(%d interfaces, %d) = %d, %v; want %d, %v", len(x.f), x.a, got, ok, x.want, x.ok)
		}
	}
	for i, wrong := range wrongFaces() {
		if got, ok := route.IsLocal([]api.Interface{b, wrong, wrong}, wrong.Addr); got != 1 || !ok {
			t.Errorf("IsLocal of wrong interface %d = %d, %v; want 1, true", i, got, ok)
		}
	}
}
