package udp_test

import (
	"encoding/binary"
	"math"
	"math/rand/v2"
	"strings"
	"testing"

	"stagepost/api"
	"stagepost/udp"
)

// far are ints that are no port and no address, and of which the lower bytes may be one.
var far = []int{-1, -2, -3, -4, -255, -256, -65535, -65536, -api.All, -1 << 32, 1 << 32, 1<<32 + 1, 1<<32 + 2, 1<<32 + 3, 1<<32 + 65535, 1 << 33, 1<<48 + 1, 1 << 62, 1<<62 + 3, math.MaxInt, math.MaxInt - 1, math.MaxInt - 65535, math.MinInt, math.MinInt + 1, math.MinInt + 2}

// long is a payload of which the tests take as many bytes as they want; equal pieces of it are rare.
var long = func() string {
	r := rand.New(rand.NewPCG(10, 0))
	return someBytes(r, 70000)
}()

// The addresses between which the tests send good.
const goodFrom, goodTo = 0x01020304, 0x05060708

// good is a valid datagram, of which the tests change one field or another.
var good = api.UDPDatagram{FromPort: 0x090a, ToPort: 0x0b0c, S: "hello"}

// changed returns good with some fields changed.
func changed(change func(u *api.UDPDatagram)) api.UDPDatagram {
	u := good
	change(&u)
	return u
}

// someBytes returns a string of n random bytes.
func someBytes(r *rand.Rand, n int) string {
	b := make([]byte, n)
	for i := range b {
		b[i] = byte(r.Uint32())
	}
	return string(b)
}

// sent is a datagram with the addresses that it is sent between.
type sent struct {
	from, to int
	u        api.UDPDatagram
}

// raw are the numbers that an encoding and its pseudo-header have, valid or not.
type raw struct {
	from, to         uint32
	fromPort, toPort uint16
	length           uint16 // that of the encoding
	pseudoLength     uint16
	zero, proto      byte
}

// rawOf returns the numbers for a datagram.
func rawOf(x sent) raw {
	length := uint16(8 + len(x.u.S))
	return raw{uint32(x.from), uint32(x.to), uint16(x.u.FromPort), uint16(x.u.ToPort), length, length, 0, 17}
}

// sumOf returns the checksum that belongs to the numbers and the payload, worked out modulo 65535.
func (h raw) sumOf(payload string) uint16 {
	b := binary.BigEndian.AppendUint32(nil, h.from)
	b = append(binary.BigEndian.AppendUint32(b, h.to), h.zero, h.proto)
	for _, n := range []uint16{h.pseudoLength, h.fromPort, h.toPort, h.length} {
		b = binary.BigEndian.AppendUint16(b, n)
	}
	sum := 0
	for i, c := range append(b, payload...) {
		sum += int(c) << (8 - i%2*8)
	}
	if sum == 0 {
		return 65535
	}
	// A sum that is not 0 never becomes 0 by carries, only 65535.
	return uint16(65535 - ((sum-1)%65535 + 1))
}

// with returns the encoding that has this checksum.
func (h raw) with(sum uint16, payload string) string {
	var b []byte
	for _, n := range []uint16{h.fromPort, h.toPort, h.length, sum} {
		b = binary.BigEndian.AppendUint16(b, n)
	}
	return string(b) + payload
}

// sealed returns the encoding with the checksum that belongs to it.
func (h raw) sealed(payload string) string { return h.with(h.sumOf(payload), payload) }

// encoded returns the encoding of a valid datagram, worked out without the package.
func encoded(x sent) string { return rawOf(x).sealed(x.u.S) }

// validDatagrams are datagrams at the edges of what is valid.
func validDatagrams() []api.UDPDatagram {
	all := []api.UDPDatagram{good, {FromPort: 1, ToPort: 1}, {FromPort: 65535, ToPort: 65535, S: long[:2000]}}
	ports := []int{1, 2, 7, 53, 255, 256, 257, 32767, 32768, 49152, 65280, 65534, 65535}
	for _, p := range ports {
		for _, q := range ports {
			all = append(all, api.UDPDatagram{FromPort: p, ToPort: q}, api.UDPDatagram{FromPort: p, ToPort: q, S: "a"})
		}
	}
	for _, size := range []int{0, 1, 2, 3, 7, 8, 9, 16, 247, 248, 249, 255, 256, 1023, 1024, 1991, 1992, 1993, 1998, 1999, 2000} {
		for _, payload := range []string{long[:size], strings.Repeat("\x00", size), strings.Repeat("\xff", size)} {
			all = append(all, changed(func(u *api.UDPDatagram) { u.S = payload }))
		}
	}
	return all
}

// wrongDatagrams are datagrams of which one or more fields are not valid.
func wrongDatagrams() []api.UDPDatagram {
	all := []api.UDPDatagram{{}, {S: "a"}, {FromPort: 1}, {ToPort: 1}, {FromPort: -1, ToPort: -1}, {FromPort: 65536, ToPort: 65536, S: "a"}, {FromPort: -1, ToPort: 1}, {FromPort: 1, ToPort: -1}}
	for _, n := range append([]int{0, 65536, 65537, 65538, 131071, 131072, 1<<31 - 1, 1 << 31, api.All}, far...) {
		all = append(all, changed(func(u *api.UDPDatagram) { u.FromPort = n }), changed(func(u *api.UDPDatagram) { u.ToPort = n }), changed(func(u *api.UDPDatagram) { u.FromPort, u.ToPort = n, n }))
	}
	// The length 8 + len(S) would be cut to 2 bytes from 65528 on.
	for _, size := range []int{2001, 2002, 2008, 2048, 4000, 32768, 65527, 65528, 65529, 65535, 65536, 65537, 65536 + 2000} {
		all = append(all, changed(func(u *api.UDPDatagram) { u.S = long[:size] }), api.UDPDatagram{S: long[:size]})
	}
	return all
}

// validAddrs are addresses that a datagram may be sent between, the ends of the range among them.
var validAddrs = []int{1, 2, 3, 17, 255, 256, 65535, 65536, 65537, 1<<24 - 1, 1 << 24, 167772161, 1<<31 - 1, 1 << 31, 0xffff0000, api.All - 1, api.All}

// wrongAddrs are no such addresses.
func wrongAddrs() []int { return append([]int{0, api.All + 1, api.All + 2}, far...) }

// told shows a datagram without the whole of its payload.
func told(u api.UDPDatagram) api.UDPDatagram {
	u.S = u.S[:min(len(u.S), 12)]
	return u
}

// encodes checks that Encode of x is s.
func encodes(t *testing.T, x sent, s string) {
	t.Helper()
	if got, e := udp.Encode(x.from, x.to, x.u); got != s || e != api.OK {
		t.Errorf("Encode(%d, %d, %+v, %d bytes) = %d bytes, first %x, %d; want %d bytes, first %x, OK", x.from, x.to, told(x.u), len(x.u.S), len(got), got[:min(len(got), 12)], e, len(s), s[:min(len(s), 12)])
	}
}

// encodesNot checks that Encode refuses x.
func encodesNot(t *testing.T, x sent) {
	t.Helper()
	if s, e := udp.Encode(x.from, x.to, x.u); s != "" || e != api.ErrUdp {
		t.Errorf("Encode(%d, %d, %+v, %d bytes) = %d bytes, %d; want ErrUdp", x.from, x.to, told(x.u), len(x.u.S), len(s), e)
	}
}

// decodes checks that s is the encoding of x.
func decodes(t *testing.T, s string, x sent) {
	t.Helper()
	if got, e := udp.Decode(x.from, x.to, s); got != x.u || e != api.OK {
		t.Errorf("Decode(%d, %d, %x...) = %+v, %d bytes, %d; want %+v, %d bytes, OK", x.from, x.to, s[:min(len(s), 12)], told(got), len(got.S), e, told(x.u), len(x.u.S))
	}
}

// refused checks that s is no datagram's encoding between these addresses.
func refused(t *testing.T, from, to int, s string) {
	t.Helper()
	if u, e := udp.Decode(from, to, s); u != (api.UDPDatagram{}) || e != api.ErrUdp {
		t.Errorf("Decode(%d, %d, %d bytes, first %x) = %+v, %d bytes, %d; want ErrUdp", from, to, len(s), s[:min(len(s), 12)], told(u), len(u.S), e)
	}
}

// TestValid: P10.1, each field at the ends of its range and just outside, and ints far outside.
func TestValid(t *testing.T) {
	for _, u := range validDatagrams() {
		if !udp.Valid(u) {
			t.Errorf("Valid(%+v, %d bytes) = false", told(u), len(u.S))
		}
	}
	for _, u := range wrongDatagrams() {
		if udp.Valid(u) {
			t.Errorf("Valid(%+v, %d bytes) = true", told(u), len(u.S))
		}
	}
}

// TestValidPorts: P10.1, every port there is, and as many ints around them.
func TestValidPorts(t *testing.T) {
	for p := -40000; p <= 140000; p++ {
		want := 1 <= p && p <= 65535
		if got := udp.Valid(api.UDPDatagram{FromPort: p, ToPort: 1}); got != want {
			t.Errorf("Valid with FromPort %d = %v", p, got)
		}
		if got := udp.Valid(api.UDPDatagram{FromPort: 1, ToPort: p}); got != want {
			t.Errorf("Valid with ToPort %d = %v", p, got)
		}
	}
}

// TestValidSizes: P10.1, every length of a payload up to far beyond the limit.
func TestValidSizes(t *testing.T) {
	for size := range 5000 {
		if got, want := udp.Valid(changed(func(u *api.UDPDatagram) { u.S = long[:size] })), size <= 2000; got != want {
			t.Errorf("Valid with %d bytes = %v", size, got)
		}
	}
}

// examples are datagrams with their encodings, written out.
var examples = []struct {
	x sent
	s string
}{
	{sent{1, 2, api.UDPDatagram{FromPort: 3, ToPort: 4, S: "ab"}}, "\x00\x03\x00\x04\x00\x0a\x9e\x6eab"},
	{sent{goodFrom, goodTo, good}, "\x09\x0a\x0b\x0c\x00\x0d\x97\xd8hello"},
	{sent{1, 1, api.UDPDatagram{FromPort: 1, ToPort: 1}}, "\x00\x01\x00\x01\x00\x08\xff\xda"},
	{sent{api.All, api.All, api.UDPDatagram{FromPort: 65535, ToPort: 65535, S: "\xff"}}, "\xff\xff\xff\xff\x00\x09\x00\xdc\xff"},
	{sent{1 << 24, 1 << 8, api.UDPDatagram{FromPort: 256, ToPort: 53, S: "\x00\x00\x01"}}, "\x01\x00\x00\x35\x00\x0b\xfb\xa3\x00\x00\x01"},
}

// TestExamples: P10.1 and P10.2, encodings byte by byte, that of the chapter first.
func TestExamples(t *testing.T) {
	for _, c := range examples {
		if encoded(c.x) != c.s {
			t.Fatalf("the tests' own encoding of %+v is %x; want %x", c.x, encoded(c.x), c.s)
		}
		encodes(t, c.x, c.s)
		decodes(t, c.s, c.x)
	}
}

// TestDatagrams: P10.1 to P10.3, valid datagrams of all kinds, there and back.
func TestDatagrams(t *testing.T) {
	for _, u := range validDatagrams() {
		x := sent{goodFrom, goodTo, u}
		encodes(t, x, encoded(x))
		decodes(t, encoded(x), x)
	}
}

// TestSizes: P10.1 to P10.3, every length of a payload, even ones and odd ones.
func TestSizes(t *testing.T) {
	for size := range 2001 {
		x := sent{goodFrom, goodTo, changed(func(u *api.UDPDatagram) { u.S = long[size : 2*size] })}
		encodes(t, x, encoded(x))
		decodes(t, encoded(x), x)
	}
}

// TestAddresses: P10.1 to P10.3, addresses at the ends of their range and between; the broadcast address is one of them, as From too.
func TestAddresses(t *testing.T) {
	for _, from := range validAddrs {
		for _, to := range validAddrs {
			x := sent{from, to, good}
			encodes(t, x, encoded(x))
			decodes(t, encoded(x), x)
		}
	}
}

// TestEncodeRefuses: P10.1, datagrams that are not valid, and addresses outside their range.
func TestEncodeRefuses(t *testing.T) {
	for _, u := range wrongDatagrams() {
		encodesNot(t, sent{goodFrom, goodTo, u})
		encodesNot(t, sent{0, goodTo, u})
	}
	for _, a := range wrongAddrs() {
		for _, u := range []api.UDPDatagram{good, {FromPort: 1, ToPort: 1}, {}} {
			encodesNot(t, sent{a, goodTo, u})
			encodesNot(t, sent{goodFrom, a, u})
			encodesNot(t, sent{a, a, u})
		}
	}
}

// TestDecodeRefusesAddresses: P10.2, addresses outside their range, with the encoding that their lower bytes would give.
func TestDecodeRefusesAddresses(t *testing.T) {
	for _, a := range wrongAddrs() {
		for _, x := range []sent{{a, goodTo, good}, {goodFrom, a, good}, {a, a, good}} {
			refused(t, x.from, x.to, encoded(x))
			refused(t, x.from, x.to, "")
		}
	}
	for _, a := range []int{0, 1 << 32} {
		refused(t, a, 1, encoded(sent{1, a, good}))
		refused(t, 1, a, encoded(sent{a, 1, good}))
	}
}

// TestDecodeOfExchangedAddresses: P10.2, a sum does not tell the order of its words, so an encoding is also one the other way around.
func TestDecodeOfExchangedAddresses(t *testing.T) {
	for _, c := range examples {
		decodes(t, c.s, sent{c.x.to, c.x.from, c.x.u})
	}
}

// TestDecodeRefusesShort: P10.2, fewer than the 8 bytes of a header.
func TestDecodeRefusesShort(t *testing.T) {
	for _, c := range examples {
		for size := range 8 {
			refused(t, c.x.from, c.x.to, c.s[:size])
			refused(t, c.x.from, c.x.to, strings.Repeat("\x00", size))
			refused(t, c.x.from, c.x.to, strings.Repeat("\x01", size))
			refused(t, c.x.from, c.x.to, strings.Repeat("\xff", size))
		}
	}
}

// TestDecodeRefusesOtherSizes: P10.2, encodings that are cut, or with something behind or before them.
func TestDecodeRefusesOtherSizes(t *testing.T) {
	for _, u := range validDatagrams() {
		s := encoded(sent{goodFrom, goodTo, u})
		for _, size := range []int{0, 1, 7, 8, 9, 8 + len(u.S)/2, len(s) - 2, len(s) - 1} {
			if size >= 0 && size < len(s) {
				refused(t, goodFrom, goodTo, s[:size])
			}
		}
		// Zeros change no sum, so the length alone tells that they are not the datagram's.
		for _, more := range []string{"\x00", "\x00\x00", "\x00\x00\x00\x00", "x", "\xff\xff", s, strings.Repeat("\x00", 65536)} {
			refused(t, goodFrom, goodTo, s+more)
		}
		refused(t, goodFrom, goodTo, "\x00"+s)
		refused(t, goodFrom, goodTo, "\x00\x00"+s)
		refused(t, goodFrom, goodTo, s[1:])
	}
	refused(t, goodFrom, goodTo, encoded(sent{goodFrom, goodTo, good})+strings.Repeat("\x00", 1<<24))
	refused(t, goodFrom, goodTo, strings.Repeat("\x01", 1<<24))
}

// TestDecodeRefusesLengths: P10.2, every length but the right one, under a checksum that would be right for it.
func TestDecodeRefusesLengths(t *testing.T) {
	for _, payload := range []string{"", "a", "ab", "hello", long[:2000]} {
		h := rawOf(sent{goodFrom, goodTo, changed(func(u *api.UDPDatagram) { u.S = payload })})
		right := h.length
		for n := range 65536 {
			if uint16(n) == right {
				continue
			}
			h.length, h.pseudoLength = uint16(n), uint16(n)
			if len(payload) <= 5 {
				refused(t, goodFrom, goodTo, h.sealed(payload))
			}
			h.pseudoLength = right
			if len(payload) <= 5 || n < 2016 {
				refused(t, goodFrom, goodTo, h.sealed(payload))
			}
		}
	}
}

// TestDecodeRefusesPorts: P10.2, the port 0 under a right checksum.
func TestDecodeRefusesPorts(t *testing.T) {
	for _, payload := range []string{"", "a", "hello", long[:2000]} {
		for _, ports := range [][2]int{{0, 1}, {1, 0}, {0, 0}, {0, 65535}, {65535, 0}, {0, 256}, {256, 0}} {
			refused(t, goodFrom, goodTo, encoded(sent{goodFrom, goodTo, api.UDPDatagram{FromPort: ports[0], ToPort: ports[1], S: payload}}))
		}
	}
}

// TestDecodeRefusesLongPayloads: P10.2, more bytes than a valid datagram has, under a right checksum and the length cut to 2 bytes.
func TestDecodeRefusesLongPayloads(t *testing.T) {
	for _, size := range []int{2001, 2002, 2047, 2048, 2992, 4000, 65526, 65527, 65528, 65529, 65535, 65536, 65538, 65536 + 1992, 65536 + 2000} {
		refused(t, goodFrom, goodTo, encoded(sent{goodFrom, goodTo, changed(func(u *api.UDPDatagram) { u.S = long[:size] })}))
	}
}

// TestDecodeRefusesChecksums: P10.2, every checksum but the right one.
func TestDecodeRefusesChecksums(t *testing.T) {
	for _, c := range examples {
		for sum := range 65536 {
			s := rawOf(c.x).with(uint16(sum), c.x.u.S)
			if s != c.s {
				refused(t, c.x.from, c.x.to, s)
			}
		}
	}
}

// TestDecodeRefusesOtherSums: P10.2, checksums over something else than the pseudo-header and the encoding.
func TestDecodeRefusesOtherSums(t *testing.T) {
	for _, c := range examples {
		for _, change := range []func(h *raw){
			func(h *raw) { h.proto = 6 }, func(h *raw) { h.proto = 1 }, func(h *raw) { h.proto = 0 }, func(h *raw) { h.zero, h.proto = 17, 0 }, func(h *raw) { h.zero = 1 },
			func(h *raw) { h.pseudoLength = 0 }, func(h *raw) { h.pseudoLength -= 8 }, func(h *raw) { h.pseudoLength += 12 },
		} {
			h := rawOf(c.x)
			change(&h)
			refused(t, c.x.from, c.x.to, rawOf(c.x).with(h.sumOf(c.x.u.S), c.x.u.S))
		}
	}
}

// TestZeroChecksum: P10.1 and P10.2, a checksum of 0 stays 0: 65535 is not written for it, nor taken for it, and 0 does not stand for any other.
func TestZeroChecksum(t *testing.T) {
	for _, payload := range []string{"\x00\x00", "ab\x00\x00", "ab\x00\x00c", long[:1998] + "\x00\x00"} {
		x := sent{goodFrom, goodTo, changed(func(u *api.UDPDatagram) { u.S = payload })}
		// In place of the zeros, the checksum makes the sum 65535.
		fill := string(binary.BigEndian.AppendUint16(nil, rawOf(x).sumOf(payload)))
		x.u.S = strings.Replace(payload, "\x00\x00", fill, 1)
		s := encoded(x)
		if s[6:8] != "\x00\x00" {
			t.Fatalf("the encoding %x has another checksum than 0", s[:8])
		}
		encodes(t, x, s)
		decodes(t, s, x)
		refused(t, goodFrom, goodTo, s[:6]+"\xff\xff"+s[8:])
	}
	refused(t, goodFrom, goodTo, rawOf(sent{goodFrom, goodTo, good}).with(0, good.S))
}

// TestChangedByte: P10.3, every other value of every byte of an encoding.
func TestChangedByte(t *testing.T) {
	xs := []sent{{1, 2, api.UDPDatagram{FromPort: 255, ToPort: 256, S: "\x00\xff\x00"}}, {api.All, 1, api.UDPDatagram{FromPort: 65280, ToPort: 1, S: "\xff\xff\x00\x00"}}, {goodFrom, goodTo, changed(func(u *api.UDPDatagram) { u.S = long[:255] })}}
	for _, c := range examples {
		xs = append(xs, c.x)
	}
	for _, x := range xs {
		s := []byte(encoded(x))
		for at := range s {
			for flip := 1; flip <= 255; flip++ {
				s[at] ^= byte(flip)
				refused(t, x.from, x.to, string(s))
				s[at] ^= byte(flip)
			}
		}
	}
}

// TestChangedByteOfLongest: P10.3, some other values of every byte of the longest encoding.
func TestChangedByteOfLongest(t *testing.T) {
	x := sent{goodFrom, goodTo, changed(func(u *api.UDPDatagram) { u.S = long[:2000] })}
	s := []byte(encoded(x))
	for at := range s {
		for _, flip := range []byte{1, 2, 0x80, 0xff} {
			s[at] ^= flip
			refused(t, x.from, x.to, string(s))
			s[at] ^= flip
		}
	}
}

// TestChangedAddressByte: P10.3, every other value of every byte of the two addresses.
func TestChangedAddressByte(t *testing.T) {
	for _, from := range validAddrs {
		for _, to := range validAddrs {
			x := sent{from, to, good}
			s := encoded(x)
			for at := range 4 {
				for flip := 1; flip <= 255; flip++ {
					refused(t, from^flip<<(8*at), to, s)
					refused(t, from, to^flip<<(8*at), s)
				}
			}
		}
	}
}

// anySent returns a random valid datagram between random addresses; many have fields at the ends of their ranges.
func anySent(r *rand.Rand) sent {
	pick := func(least, most int) int {
		switch r.IntN(6) {
		case 0:
			return least
		case 1:
			return most
		}
		return least + r.IntN(most-least+1)
	}
	return sent{pick(1, api.All), pick(1, api.All), api.UDPDatagram{FromPort: pick(1, 65535), ToPort: pick(1, 65535), S: someBytes(r, pick(0, pick(0, 2000)))}}
}

// TestDecodeInvertsEncode: P10.3, random datagrams.
func TestDecodeInvertsEncode(t *testing.T) {
	r := rand.New(rand.NewPCG(10, 1))
	for range 5000 {
		x := anySent(r)
		s := encoded(x)
		encodes(t, x, s)
		decodes(t, s, x)
		changedAt := []byte(s)
		changedAt[r.IntN(len(s))] ^= byte(1 + r.IntN(255))
		refused(t, x.from, x.to, string(changedAt))
		refused(t, x.from^(1+r.IntN(255))<<(8*r.IntN(4)), x.to, s)
		refused(t, x.from, x.to^(1+r.IntN(255))<<(8*r.IntN(4)), s)
	}
}

// TestDecodedIsEncoding: P10.2, of random numbers under right checksums, Decode accepts just those of a valid datagram, and these are what it answers.
func TestDecodedIsEncoding(t *testing.T) {
	r := rand.New(rand.NewPCG(10, 2))
	accepted := 0
	for range 50000 {
		payload := long[:r.IntN(40)]
		x := sent{r.IntN(8), r.IntN(8), api.UDPDatagram{FromPort: r.IntN(4), ToPort: r.IntN(4), S: payload}}
		h := rawOf(x)
		if r.IntN(4) == 0 {
			h.length += uint16(r.IntN(3)) - 1
		}
		s := h.sealed(payload)
		if x.from == 0 || x.to == 0 || x.u.FromPort == 0 || x.u.ToPort == 0 || int(h.length) != len(s) {
			refused(t, x.from, x.to, s)
			continue
		}
		accepted++
		decodes(t, s, x)
		encodes(t, x, s)
	}
	if accepted < 5000 || accepted > 45000 {
		t.Errorf("of 50000 strings, %d are encodings", accepted)
	}
}

// TestDecodeOfAnyBytes: P10.2, random bytes, of which none are an encoding by chance.
func TestDecodeOfAnyBytes(t *testing.T) {
	r := rand.New(rand.NewPCG(10, 3))
	for range 20000 {
		refused(t, goodFrom, goodTo, someBytes(r, r.IntN(60)))
	}
}

// TestCallsAreIndependent: R2 and R4, a refused call leaves nothing behind that a later one answers.
func TestCallsAreIndependent(t *testing.T) {
	for _, c := range examples {
		encodesNot(t, sent{0, 1, good})
		encodes(t, c.x, c.s)
		refused(t, 1, 0, c.s)
		decodes(t, c.s, c.x)
		refused(t, c.x.from, c.x.to, c.s+"\x00")
		encodes(t, c.x, c.s)
	}
}
