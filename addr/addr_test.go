package addr_test

import (
	"math"
	"math/rand/v2"
	"net/netip"
	"strconv"
	"strings"
	"testing"

	"stagepost/addr"
	"stagepost/api"
)

// top is the address of which only the first bit is set.
const top = 1 << 31

// outside are ints that are no addresses.
var outside = []int{-1, -2, -256, -top, -api.All, -api.All - 1, -api.All - 2, api.All + 1, api.All + 2, 2 * api.All, 2*api.All + 1, 1 << 40, 1 << 62, -1 << 62, math.MaxInt, math.MaxInt - 1, math.MinInt, math.MinInt + 1}

// edges are addresses at which a function may change its answer.
var edges = []int{0, 1, 2, 9, 10, 99, 100, 127, 128, 254, 255, 256, 257, 65535, 65536, 1<<24 - 1, 1 << 24, 10 << 24, top - 1, top, top + 1, 0xaaaaaaaa, 0x55555555, api.All - 256, api.All - 255, api.All - 2, api.All - 1, api.All}

// anyAddr returns a random address; many have long runs of equal bits.
func anyAddr(r *rand.Rand) int {
	a := int(r.Uint32() >> r.UintN(32))
	if r.UintN(2) == 0 {
		return api.All - a
	}
	return a
}

// first returns a with all bits after the first ones cleared, which it works out by division.
func first(a, bits int) int {
	size := 1
	for range 32 - bits {
		size *= 2
	}
	return a / size * size
}

// library returns a as an address of the library.
func library(a int) netip.Addr {
	return netip.AddrFrom4([4]byte{byte(a / (1 << 24)), byte(a / 65536), byte(a / 256), byte(a)})
}

// TestValid: P3.1, the two ends of the range and the ints just outside.
func TestValid(t *testing.T) {
	for _, a := range edges {
		if !addr.Valid(a) {
			t.Errorf("Valid(%d) = false", a)
		}
	}
	for _, a := range outside {
		if addr.Valid(a) {
			t.Errorf("Valid(%d) = true", a)
		}
	}
}

// dotted are addresses with their forms.
var dotted = []struct {
	a int
	s string
}{
	{0, "0.0.0.0"}, {1, "0.0.0.1"}, {9, "0.0.0.9"}, {10, "0.0.0.10"}, {99, "0.0.0.99"}, {100, "0.0.0.100"}, {255, "0.0.0.255"},
	{256, "0.0.1.0"}, {65535, "0.0.255.255"}, {65536, "0.1.0.0"}, {1<<24 - 1, "0.255.255.255"}, {1 << 24, "1.0.0.0"},
	{167772161, "10.0.0.1"}, {0x01020304, "1.2.3.4"}, {0xc0a80164, "192.168.1.100"}, {0x0a0b0c0d, "10.11.12.13"},
	{top - 1, "127.255.255.255"}, {top, "128.0.0.0"}, {top + 1, "128.0.0.1"}, {0xff000000, "255.0.0.0"}, {0x00ff00ff, "0.255.0.255"},
	{api.All - 255, "255.255.255.0"}, {api.All - 1, "255.255.255.254"}, {api.All, "255.255.255.255"},
}

// TestFormat: P3.1, fields of one, two and three digits, and ints that are no addresses.
func TestFormat(t *testing.T) {
	for _, c := range dotted {
		if s, e := addr.Format(c.a); s != c.s || e != api.OK {
			t.Errorf("Format(%d) = %q, %d; want %q, OK", c.a, s, e, c.s)
		}
	}
	for _, a := range outside {
		if s, e := addr.Format(a); s != "" || e != api.ErrAddr {
			t.Errorf("Format(%d) = %q, %d; want ErrAddr", a, s, e)
		}
	}
}

// TestParse: P3.1, the forms of addresses.
func TestParse(t *testing.T) {
	for _, c := range dotted {
		if a, e := addr.Parse(c.s); a != c.a || e != api.OK {
			t.Errorf("Parse(%q) = %d, %d; want %d, OK", c.s, a, e, c.a)
		}
	}
}

// wrongFields are texts that aren't the form of any byte.
var wrongFields = []string{
	"", "00", "000", "01", "001", "010", "09", "0255", "256", "257", "260", "299", "300", "511", "512", "999", "1000", "2550", "65536", "65537",
	"4294967296", "4294967297", "9223372036854775807", "9223372036854775808", "18446744073709551616", "18446744073709551617", "36893488147419103233",
	"99999999999999999999", strings.Repeat("9", 400), "1" + strings.Repeat("0", 10000), strings.Repeat("0", 400) + "1", "00000000000000000000000000000001",
	"+1", "-1", "+0", "-0", "--1", "++1", "1+", "1-", " 1", "1 ", "1 1", " ", "\t1", "1\t", "1\n", "\n1", "\r", "1\x00", "\x001", "\x00", "\xff", "1\x80",
	"x", "a", "1a", "a1", "0x1", "0X1", "0b1", "0o1", "1_0", "_1", "1_", "1e1", "1e0", "1,0", ",", ":", "1:", "/", "1/", "/1", "٣", "१", "１", "²", "é",
}

// refused checks that s is no form of an address.
func refused(t *testing.T, s string) {
	t.Helper()
	if a, e := addr.Parse(s); a != 0 || e != api.ErrAddr {
		t.Errorf("Parse(%q) = %d, %d; want ErrAddr", s, a, e)
	}
}

// TestParseRefusesFields: P3.1, each wrong field in each of the four places.
func TestParseRefusesFields(t *testing.T) {
	for _, field := range wrongFields {
		for place := range 4 {
			for _, around := range []string{"0", "1", "255"} {
				fields := []string{around, around, around, around}
				fields[place] = field
				refused(t, strings.Join(fields, "."))
			}
		}
	}
}

// TestParseRefusesTexts: P3.1, too few and too many fields, other separators, and what stands before or behind.
func TestParseRefusesTexts(t *testing.T) {
	for _, s := range []string{
		"", ".", "..", "...", "....", "0", "1", "0.0", "1.2", "0.0.0", "1.2.3", "1.2.3.4.5", "0.0.0.0.0", "1.2.3.4.5.6.7.8", "255.255.255.255.255",
		"1.2.3.", ".2.3.4", "1..3.4", "1.2..4", "1.2.3.4.", ".1.2.3.4", "1..2.3.4", "1.2.3..4", "..1.2.3.4", "1.2.3.4..",
		"01.2.3.4", "1.2.3.256", "1.2.3.4/8", "1.2.3.4/32", "1.2.3.4:80", "1.2.3.4 ", " 1.2.3.4", "1.2.3.4\n", "1.2.3.4\x00", "\x001.2.3.4", "1 .2.3.4", "1. 2.3.4",
		"1,2,3,4", "1.2.3,4", "1:2:3:4", "1-2-3-4", "1 2 3 4", "1。2。3。4", "16909060", "0x01020304", "4294967295", "::1", "::ffff:1.2.3.4", "[1.2.3.4]", "localhost",
		strings.Repeat(".", 100000), strings.Repeat("1.", 100000), "1.2.3.4" + strings.Repeat(".0", 100000), strings.Repeat("1", 100000),
	} {
		refused(t, s)
	}
}

// mutated returns s with a few of its bytes changed, left out, or put in.
func mutated(r *rand.Rand, s string) string {
	const signs = "0123456789012345678901234567890123456789..../+- x\x00"
	for range r.UintN(4) {
		at, end := int(r.UintN(uint(len(s)+1))), int(r.UintN(uint(len(s)+1)))
		end = min(max(at, end), at+1)
		if sign := int(r.UintN(uint(len(signs) + 1))); sign < len(signs) {
			s = s[:at] + signs[sign:sign+1] + s[end:]
		} else {
			s = s[:at] + s[end:]
		}
	}
	return s
}

// TestParseOfAnyText: P3.1, forms with changed bytes, against the library, which reads dotted forms just as strictly.
func TestParseOfAnyText(t *testing.T) {
	r := rand.New(rand.NewPCG(3, 1))
	read := 0
	for range 50000 {
		s := mutated(r, library(anyAddr(r)).String())
		want, err := netip.ParseAddr(s)
		if err != nil || !want.Is4() {
			refused(t, s)
			continue
		}
		read++
		if a, e := addr.Parse(s); e != api.OK || library(a) != want {
			t.Errorf("Parse(%q) = %d, %d", s, a, e)
		}
	}
	if read < 5000 || read > 45000 {
		t.Errorf("of 50000 texts, %d are forms of addresses", read)
	}
}

// wrongPrefixes are prefixes that aren't valid.
var wrongPrefixes = []api.Prefix{
	{Addr: 0, Bits: -1}, {Addr: 0, Bits: 33}, {Addr: 0, Bits: 34}, {Addr: 0, Bits: 40}, {Addr: 0, Bits: 63}, {Addr: 0, Bits: 64}, {Addr: 0, Bits: 65}, {Addr: 0, Bits: 256}, {Addr: 0, Bits: 1 << 32}, {Addr: 0, Bits: math.MaxInt}, {Addr: 0, Bits: math.MinInt}, {Addr: 0, Bits: -32},
	{Addr: api.All, Bits: -1}, {Addr: api.All, Bits: 33}, {Addr: 1, Bits: -1}, {Addr: 1, Bits: 33}, {Addr: top, Bits: -1}, {Addr: top, Bits: 33},
	{Addr: 1, Bits: 0}, {Addr: top, Bits: 0}, {Addr: api.All, Bits: 0}, {Addr: 1, Bits: 1}, {Addr: top / 2, Bits: 1}, {Addr: top + 1, Bits: 1}, {Addr: api.All, Bits: 1},
	{Addr: 1, Bits: 31}, {Addr: 3, Bits: 31}, {Addr: api.All, Bits: 31}, {Addr: 0x0a000001, Bits: 8}, {Addr: 0x0a800000, Bits: 8}, {Addr: 0x0a000001, Bits: 24},
	{Addr: -1, Bits: 0}, {Addr: -1, Bits: 32}, {Addr: -2, Bits: 31}, {Addr: -top, Bits: 1}, {Addr: -api.All - 1, Bits: 0}, {Addr: -256, Bits: 24}, {Addr: math.MinInt, Bits: 0}, {Addr: math.MinInt, Bits: 32}, {Addr: -1, Bits: -1},
	{Addr: api.All + 1, Bits: 0}, {Addr: api.All + 1, Bits: 1}, {Addr: api.All + 1, Bits: 32}, {Addr: 2 * (api.All + 1), Bits: 0}, {Addr: 1 << 62, Bits: 0}, {Addr: math.MaxInt, Bits: 32}, {Addr: api.All + 1, Bits: 33},
}

// TestValidPrefix: P3.2, each length with the last bit that it allows, with the first that it doesn't, and with the last of all.
func TestValidPrefix(t *testing.T) {
	for bits := 0; bits <= 32; bits++ {
		for _, a := range edges {
			n := api.Prefix{Addr: a, Bits: bits}
			if got, want := addr.ValidPrefix(n), first(a, bits) == a; got != want {
				t.Errorf("ValidPrefix(%v) = %v; want %v", n, got, want)
			}
		}
		for bit := range 32 {
			n := api.Prefix{Addr: 1 << (31 - bit), Bits: bits}
			if got, want := addr.ValidPrefix(n), bit < bits; got != want {
				t.Errorf("ValidPrefix(%v) = %v; want %v", n, got, want)
			}
		}
	}
	for _, n := range wrongPrefixes {
		if addr.ValidPrefix(n) {
			t.Errorf("ValidPrefix(%v) = true", n)
		}
	}
}

// prefixes are valid prefixes with their forms and greatest addresses.
var prefixes = []struct {
	s    string
	n    api.Prefix
	last int
}{
	{"0.0.0.0/0", api.Prefix{}, api.All}, {"0.0.0.0/1", api.Prefix{Bits: 1}, top - 1}, {"128.0.0.0/1", api.Prefix{Addr: top, Bits: 1}, api.All}, {"192.0.0.0/2", api.Prefix{Addr: 3 << 30, Bits: 2}, api.All},
	{"10.0.0.0/8", api.Prefix{Addr: 10 << 24, Bits: 8}, 11<<24 - 1}, {"10.0.0.0/9", api.Prefix{Addr: 10 << 24, Bits: 9}, 10<<24 + 1<<23 - 1}, {"10.128.0.0/10", api.Prefix{Addr: 10<<24 + 1<<23, Bits: 10}, 10<<24 + 3<<22 - 1},
	{"192.168.0.0/16", api.Prefix{Addr: 0xc0a80000, Bits: 16}, 0xc0a8ffff}, {"192.168.1.0/24", api.Prefix{Addr: 0xc0a80100, Bits: 24}, 0xc0a801ff}, {"192.168.1.128/29", api.Prefix{Addr: 0xc0a80180, Bits: 29}, 0xc0a80187},
	{"0.0.0.0/31", api.Prefix{Bits: 31}, 1}, {"1.2.3.4/31", api.Prefix{Addr: 0x01020304, Bits: 31}, 0x01020305}, {"255.255.255.254/31", api.Prefix{Addr: api.All - 1, Bits: 31}, api.All},
	{"0.0.0.0/32", api.Prefix{Bits: 32}, 0}, {"1.2.3.4/32", api.Prefix{Addr: 0x01020304, Bits: 32}, 0x01020304}, {"1.2.3.5/32", api.Prefix{Addr: 0x01020305, Bits: 32}, 0x01020305}, {"255.255.255.255/32", api.Prefix{Addr: api.All, Bits: 32}, api.All},
}

// TestLast: P3.2, valid prefixes, and the answer to others.
func TestLast(t *testing.T) {
	for _, c := range prefixes {
		if got := addr.Last(c.n); got != c.last {
			t.Errorf("Last(%s) = %d; want %d", c.s, got, c.last)
		}
	}
	for _, n := range wrongPrefixes {
		if got := addr.Last(n); got != 0 {
			t.Errorf("Last(%v) = %d; want 0", n, got)
		}
	}
}

// TestContains: P3.2, the ends of each prefix, the addresses just outside, and ints that are no addresses.
func TestContains(t *testing.T) {
	for _, c := range prefixes {
		for _, a := range append([]int{c.n.Addr, c.n.Addr + 1, c.last - 1, c.last, (c.n.Addr + c.last) / 2}, edges...) {
			if got, want := addr.Contains(c.n, a), first(a, c.n.Bits) == c.n.Addr; got != want {
				t.Errorf("Contains(%s, %d) = %v; want %v", c.s, a, got, want)
			}
		}
		for _, a := range append([]int{c.n.Addr - 1, c.last + 1, c.n.Addr + api.All + 1, c.n.Addr - api.All - 1}, outside...) {
			if addr.Contains(c.n, a) {
				t.Errorf("Contains(%s, %d) = true", c.s, a)
			}
		}
	}
}

// TestContainsOfWrongPrefix: P3.2, a prefix that isn't valid contains nothing.
func TestContainsOfWrongPrefix(t *testing.T) {
	for _, n := range wrongPrefixes {
		for _, a := range append(append([]int{n.Addr, first(max(n.Addr, 0), min(max(n.Bits, 0), 32))}, edges...), outside...) {
			if addr.Contains(n, a) {
				t.Errorf("Contains(%v, %d) = true", n, a)
			}
		}
	}
}

// TestFormatPrefix: P3.3, valid prefixes and others.
func TestFormatPrefix(t *testing.T) {
	for _, c := range prefixes {
		if s, e := addr.FormatPrefix(c.n); s != c.s || e != api.OK {
			t.Errorf("FormatPrefix(%v) = %q, %d; want %q, OK", c.n, s, e, c.s)
		}
	}
	for _, n := range wrongPrefixes {
		if s, e := addr.FormatPrefix(n); s != "" || e != api.ErrAddr {
			t.Errorf("FormatPrefix(%v) = %q, %d; want ErrAddr", n, s, e)
		}
	}
}

// TestParsePrefix: P3.3, the forms of valid prefixes.
func TestParsePrefix(t *testing.T) {
	for _, c := range prefixes {
		if n, e := addr.ParsePrefix(c.s); n != c.n || e != api.OK {
			t.Errorf("ParsePrefix(%q) = %v, %d; want %v, OK", c.s, n, e, c.n)
		}
	}
}

// refusedPrefix checks that s is no form of a valid prefix.
func refusedPrefix(t *testing.T, s string) {
	t.Helper()
	if n, e := addr.ParsePrefix(s); n != (api.Prefix{}) || e != api.ErrAddr {
		t.Errorf("ParsePrefix(%q) = %v, %d; want ErrAddr", s, n, e)
	}
}

// TestParsePrefixRefuses: P3.3, no slash and too many, wrong addresses, wrong lengths, and bits after the first ones.
func TestParsePrefixRefuses(t *testing.T) {
	for _, s := range []string{
		"", "/", "//", "/0", "/8", "/32", "8", "0", "0.0.0.0", "1.2.3.4", "0.0.0.0/", "1.2.3.4/", "10.0.0.0//8", "10.0.0.0/8/", "/10.0.0.0/8", "10.0.0.0/8/8", "0.0.0.0/0/0", "1.2.3.4/32/32", "1.2.3.4.32", "1.2.3.4 32", "1.2.3.4\\32", "1.2.3.4:32", "32/1.2.3.4", "1.2.3.4/1.2.3.4", "10.0.0.0/255.0.0.0",
		"0.0.0.0/33", "1.2.3.4/33", "0.0.0.0/34", "0.0.0.0/40", "0.0.0.0/64", "0.0.0.0/99", "0.0.0.0/100", "0.0.0.0/255", "0.0.0.0/256",
		"10.0.0.1/8", "10.128.0.0/8", "1.0.0.0/7", "1.2.3.4/29", "1.2.3.5/31", "0.0.0.1/31", "0.0.0.1/0", "128.0.0.0/0", "255.255.255.255/0", "255.255.255.255/31", "64.0.0.0/1", "128.0.0.1/1",
		"1.2.3/8", "1.2.3/24", "10/8", "0/0", "10.0.0/8", "10.0.0.0.0/8", "10.0.0./8", ".0.0.0/8", "10.0.0.0./8", "01.0.0.0/8", "010.0.0.0/8", "256.0.0.0/8", "-1.0.0.0/8", "+10.0.0.0/8", "10.0.0.x/8", "99999999999999999999.0.0.0/8",
		"10.0.0.0/ 8", "10.0.0.0 /8", " 10.0.0.0/8", "10.0.0.0/8 ", "10.0.0.0/8\n", "10.0.0.0/8\x00", "10.0.0.0\x00/8", "\t10.0.0.0/8", "::/0", "::ffff:10.0.0.0/8",
		strings.Repeat("/", 100000), "10.0.0.0/8" + strings.Repeat("/8", 100000), "10.0.0.0" + strings.Repeat(".0", 100000) + "/8",
	} {
		refusedPrefix(t, s)
	}
	for _, count := range wrongFields {
		refusedPrefix(t, "0.0.0.0/"+count)
		refusedPrefix(t, count+".0.0.0/32")
		refusedPrefix(t, "0.0.0."+count+"/32")
	}
}

// TestParsePrefixOfAnyText: P3.3, forms with changed bytes, against the library.
func TestParsePrefixOfAnyText(t *testing.T) {
	r := rand.New(rand.NewPCG(3, 2))
	read := 0
	for range 50000 {
		bits := int(r.UintN(33))
		s := mutated(r, library(first(anyAddr(r), bits)).String()+"/"+strconv.Itoa(bits))
		want, err := netip.ParsePrefix(s)
		if err != nil || !want.Addr().Is4() || want != want.Masked() {
			refusedPrefix(t, s)
			continue
		}
		read++
		if n, e := addr.ParsePrefix(s); e != api.OK || library(n.Addr) != want.Addr() || n.Bits != want.Bits() {
			t.Errorf("ParsePrefix(%q) = %v, %d", s, n, e)
		}
	}
	if read < 5000 || read > 45000 {
		t.Errorf("of 50000 texts, %d are forms of valid prefixes", read)
	}
}

// backAgain checks that a is what its form is read as.
func backAgain(t *testing.T, a int) {
	t.Helper()
	s, e := addr.Format(a)
	if e != api.OK || s != library(a).String() {
		t.Errorf("Format(%d) = %q, %d", a, s, e)
	}
	if got, e := addr.Parse(s); got != a || e != api.OK {
		t.Errorf("Parse(%q) = %d, %d; want %d, OK", s, got, e, a)
	}
}

// TestParseInvertsFormat: P3.4, each value of each byte, and many random addresses.
func TestParseInvertsFormat(t *testing.T) {
	for b := range 256 {
		for _, a := range []int{b, b << 8, b << 16, b << 24, api.All - b, api.All - b<<8, api.All - b<<16, api.All - b<<24} {
			backAgain(t, a)
		}
	}
	r := rand.New(rand.NewPCG(3, 3))
	for range 20000 {
		backAgain(t, anyAddr(r))
	}
}

// prefixOf returns the prefix of that many bits that a is in.
func prefixOf(a, bits int) api.Prefix { return api.Prefix{Addr: first(a, bits), Bits: bits} }

// TestParseInvertsFormatOfPrefix: P3.4, prefixes of all lengths around many addresses.
func TestParseInvertsFormatOfPrefix(t *testing.T) {
	r := rand.New(rand.NewPCG(3, 4))
	for range 1000 {
		a := anyAddr(r)
		for bits := 0; bits <= 32; bits++ {
			n := prefixOf(a, bits)
			s, e := addr.FormatPrefix(n)
			if want := library(n.Addr).String() + "/" + strconv.Itoa(bits); e != api.OK || s != want {
				t.Errorf("FormatPrefix(%v) = %q, %d; want %q, OK", n, s, e, want)
			}
			if got, e := addr.ParsePrefix(s); got != n || e != api.OK {
				t.Errorf("ParsePrefix(%q) = %v, %d; want %v, OK", s, got, e, n)
			}
		}
	}
}

// TestContainsFromAddrToLast: P3.4, the addresses about both ends of prefixes of all lengths, and random ones.
func TestContainsFromAddrToLast(t *testing.T) {
	r := rand.New(rand.NewPCG(3, 5))
	for range 300 {
		around := anyAddr(r)
		for bits := 0; bits <= 32; bits++ {
			n := prefixOf(around, bits)
			last := addr.Last(n)
			for _, a := range []int{around, n.Addr - 1, n.Addr, n.Addr + 1, last - 1, last, last + 1, anyAddr(r), anyAddr(r)} {
				if got, want := addr.Contains(n, a), a >= n.Addr && a <= last; got != want {
					t.Errorf("Contains(%v, %d) = %v; want %v, as Last is %d", n, a, got, want, last)
				}
			}
			if size := last - n.Addr + 1; size != 1<<(32-bits) {
				t.Errorf("from %v to Last there are %d addresses", n, size)
			}
		}
	}
}

// nested checks that the prefixes a and b are disjoint, or that the longer one is in the other.
func nested(t *testing.T, a, b api.Prefix) {
	t.Helper()
	if a.Bits > b.Bits {
		a, b = b, a
	}
	start, end := addr.Contains(a, b.Addr), addr.Contains(a, addr.Last(b))
	apart := addr.Last(a) < b.Addr || addr.Last(b) < a.Addr
	if start != end || start == apart {
		t.Errorf("%v and %v: the second's ends are in the first: %v and %v; they are disjoint: %v", a, b, start, end, apart)
	}
}

// TestPrefixesNest: P3.4, pairs of prefixes of all lengths, around the same address and around others.
func TestPrefixesNest(t *testing.T) {
	r := rand.New(rand.NewPCG(3, 6))
	for range 20 {
		a := anyAddr(r)
		for _, b := range []int{a, a ^ 1, a ^ top, a ^ 1<<r.UintN(32), anyAddr(r)} {
			for some := 0; some <= 32; some++ {
				for others := 0; others <= 32; others++ {
					nested(t, prefixOf(a, some), prefixOf(b, others))
				}
			}
		}
	}
}
