package ip_test

import (
	"encoding/binary"
	"math"
	"math/bits"
	"math/rand/v2"
	"strings"
	"testing"

	"stagepost/api"
	"stagepost/ip"
)

// far are ints that no field of a valid datagram holds, and that the lower bytes of a field may hide.
var far = []int{-1, -2, -8, -16, -255, -256, -4000, -65535, -65536, -1 << 32, 1<<32 + 1, 1<<32 + 8, 1<<32 + 4000, 1 << 33, 1 << 62, 1<<62 + 8, math.MaxInt, math.MaxInt - 1, math.MaxInt - 7, math.MaxInt - 3999, math.MinInt, math.MinInt + 1, math.MinInt + 8}

// long is a payload of which the tests take as many bytes as they want; equal pieces of it are rare.
var long = func() string {
	r := rand.New(rand.NewPCG(6, 0))
	return someBytes(r, 5000)
}()

// good is a valid datagram, of which the tests change one field or another.
var good = api.Packet{From: 0x01020304, To: 0x05060708, Proto: 9, TTL: 10, ID: 0x0b0c, S: "hello"}

// changed returns good with some fields changed.
func changed(change func(p *api.Packet)) api.Packet {
	p := good
	change(&p)
	return p
}

// someBytes returns a string of n random bytes.
func someBytes(r *rand.Rand, n int) string {
	b := make([]byte, n)
	for i := range b {
		b[i] = byte(r.Uint32())
	}
	return string(b)
}

// raw are the numbers of a header, valid or not.
type raw struct {
	version    byte
	from, to   uint32
	proto, ttl byte
	id         uint16
	flags      byte
	units      uint16
	length     uint16
}

// rawOf returns the numbers of the header of p.
func rawOf(p api.Packet) raw {
	h := raw{4, uint32(p.From), uint32(p.To), byte(p.Proto), byte(p.TTL), uint16(p.ID), 0, uint16(p.Off / 8), uint16(len(p.S))}
	if p.DF {
		h.flags++
	}
	if p.MF {
		h.flags += 2
	}
	return h
}

// front returns the bytes in front of the checksum.
func (h raw) front() string {
	b := binary.BigEndian.AppendUint32([]byte{h.version}, h.from)
	b = append(binary.BigEndian.AppendUint32(b, h.to), h.proto, h.ttl)
	b = append(binary.BigEndian.AppendUint16(b, h.id), h.flags)
	b = binary.BigEndian.AppendUint16(b, h.units)
	return string(binary.BigEndian.AppendUint16(b, h.length))
}

// sealed returns the bytes with their checksum behind them, worked out modulo 65535.
func sealed(front string) string {
	sum := 0
	for i := range len(front) {
		sum += int(front[i]) << (8 - i%2*8)
	}
	// The sum is 65535 and not 0, because some byte in front of a checksum is not 0.
	sum = (sum-1)%65535 + 1
	return string(binary.BigEndian.AppendUint16([]byte(front), uint16(65535-sum)))
}

// header returns the bytes of the header with its right checksum.
func (h raw) header() string { return sealed(h.front()) }

// encoded returns the encoding of a valid datagram, worked out without the package.
func encoded(p api.Packet) string { return rawOf(p).header() + p.S }

// validPackets are datagrams at the edges of what is valid.
func validPackets() []api.Packet {
	packets := []api.Packet{good, {From: 1, To: 1, TTL: 1}, {From: api.All - 1, To: api.All, Proto: 255, TTL: 255, ID: 65535, DF: true, S: long[:4000]}, {From: api.All - 1, To: api.All, Proto: 255, TTL: 255, ID: 65535, MF: true, Off: 3992, S: "\xff\xff\xff\xff\xff\xff\xff\xff"}}
	for _, a := range []int{1, 2, 255, 256, 65535, 65536, 1<<24 - 1, 1 << 24, 1<<31 - 1, 1 << 31, api.All - 2, api.All - 1} {
		packets = append(packets, changed(func(p *api.Packet) { p.From = a }), changed(func(p *api.Packet) { p.To = a }), changed(func(p *api.Packet) { p.From, p.To = a, a }))
	}
	packets = append(packets, changed(func(p *api.Packet) { p.To = api.All }), changed(func(p *api.Packet) { p.To, p.Off, p.MF, p.S = api.All, 8, true, long[:8] }))
	for _, n := range []int{0, 1, 2, 6, 17, 127, 128, 254, 255} {
		packets = append(packets, changed(func(p *api.Packet) { p.Proto = n }), changed(func(p *api.Packet) { p.TTL = max(n, 1) }), changed(func(p *api.Packet) { p.ID = n }))
	}
	for _, n := range []int{256, 257, 32767, 32768, 65280, 65534, 65535} {
		packets = append(packets, changed(func(p *api.Packet) { p.ID = n }))
	}
	for _, size := range []int{0, 1, 2, 7, 8, 9, 255, 256, 257, 1004, 1024, 2047, 2048, 3999, 4000} {
		packets = append(packets, changed(func(p *api.Packet) { p.S = long[:size] }), changed(func(p *api.Packet) { p.S, p.DF = long[:size], true }), changed(func(p *api.Packet) { p.S = strings.Repeat("\x00", size) }))
	}
	for _, size := range []int{8, 16, 24, 256, 1000, 2048, 3992, 4000} {
		packets = append(packets, changed(func(p *api.Packet) { p.S, p.MF = long[:size], true }))
	}
	for _, off := range []int{8, 16, 256, 2040, 2048, 2056, 3984, 3992} {
		for _, size := range []int{1, 2, 7, 8, 9, 15, 16, 4000 - off - 8, 4000 - off - 1, 4000 - off} {
			if size < 1 || off+size > 4000 {
				continue
			}
			packets = append(packets, changed(func(p *api.Packet) { p.Off, p.S = off, long[:size] }))
			if size%8 == 0 {
				packets = append(packets, changed(func(p *api.Packet) { p.Off, p.S, p.MF = off, long[:size], true }))
			}
		}
	}
	return packets
}

// wrongPackets are datagrams of which one or more fields are not valid.
func wrongPackets() []api.Packet {
	packets := []api.Packet{{}, {S: "a"}, {From: 1, To: 1}, {From: 1, TTL: 1}, {To: 1, TTL: 1}, {From: -1, To: -1, Proto: -1, TTL: -1, ID: -1, Off: -8, S: "a"}, {From: api.All, To: api.All, TTL: 1}, {From: api.All + 1, To: api.All + 1, Proto: 256, TTL: 256, ID: 65536, Off: 4008, S: "a"}, {DF: true, MF: true, Off: 8}}
	for _, n := range append([]int{0, api.All + 1}, far...) {
		packets = append(packets, changed(func(p *api.Packet) { p.From = n }), changed(func(p *api.Packet) { p.To = n }))
	}
	packets = append(packets, changed(func(p *api.Packet) { p.From = api.All }), changed(func(p *api.Packet) { p.TTL = 0 }))
	for _, n := range append([]int{256, 257, 511, 512, 65535, 65536}, far...) {
		packets = append(packets, changed(func(p *api.Packet) { p.Proto = n }), changed(func(p *api.Packet) { p.TTL = n }))
	}
	for _, n := range append([]int{65536, 65537, 131071, 131072}, far...) {
		packets = append(packets, changed(func(p *api.Packet) { p.ID = n }))
	}
	for _, n := range append([]int{1, 2, 3, 4, 5, 6, 7, 9, 12, 15, 17, 3991, 3993, 3996, 4000, 4008, 8192, 65536, 524288, 524296}, far...) {
		packets = append(packets, changed(func(p *api.Packet) { p.Off = n }), changed(func(p *api.Packet) { p.Off, p.S = n, "" }), changed(func(p *api.Packet) { p.Off, p.S = n, long[:16] }), changed(func(p *api.Packet) { p.Off, p.S, p.MF = n, long[:16], true }))
	}
	for _, size := range []int{4001, 4002, 4008, 4096, 5000} {
		packets = append(packets, changed(func(p *api.Packet) { p.S = long[:size] }), changed(func(p *api.Packet) { p.S, p.DF = long[:size], true }), changed(func(p *api.Packet) { p.S, p.MF = long[:size], true }), changed(func(p *api.Packet) { p.S, p.Off = long[:size], 8 }))
	}
	for _, size := range []int{65535, 65536, 65544, 1 << 20} {
		packets = append(packets, changed(func(p *api.Packet) { p.S = strings.Repeat("b", size) }), changed(func(p *api.Packet) { p.S, p.Off = strings.Repeat("b", size), 3992 }))
	}
	for _, off := range []int{8, 16, 2048, 3984, 3992} {
		for _, size := range []int{4000 - off + 1, 4000 - off + 2, 4000 - off + 8, 4000} {
			packets = append(packets, changed(func(p *api.Packet) { p.Off, p.S = off, long[:size] }), changed(func(p *api.Packet) { p.Off, p.S, p.MF = off, long[:size], true }))
		}
	}
	for _, off := range []int{0, 8, 16, 800} {
		for _, size := range []int{0, 1, 2, 4, 7, 9, 12, 15, 17, 1023, 3199} {
			packets = append(packets, changed(func(p *api.Packet) { p.Off, p.S, p.MF = off, long[:size], true }))
		}
		for _, size := range []int{0, 8, 16} {
			packets = append(packets, changed(func(p *api.Packet) { p.Off, p.S, p.MF, p.DF = off, long[:size], true, true }))
		}
		for _, size := range []int{0, 1, 8, 9} {
			if off > 0 {
				packets = append(packets, changed(func(p *api.Packet) { p.Off, p.S, p.DF = off, long[:size], true }))
			}
		}
	}
	return packets
}

// told shows a datagram without the whole of its payload.
func told(p api.Packet) api.Packet {
	p.S = p.S[:min(len(p.S), 12)]
	return p
}

// TestValid: P6.1, each field at the ends of its range and just outside, and ints far outside.
func TestValid(t *testing.T) {
	for _, p := range validPackets() {
		if !ip.Valid(p) {
			t.Errorf("Valid(%+v, %d bytes) = false", told(p), len(p.S))
		}
	}
	for _, p := range wrongPackets() {
		if ip.Valid(p) {
			t.Errorf("Valid(%+v, %d bytes) = true", told(p), len(p.S))
		}
	}
}

// placed reports whether the flags, the offset and the payload of p are those of a valid datagram, if Off is small enough to be added to.
func placed(p api.Packet) bool {
	if p.Off < 0 || p.Off%8 != 0 || p.Off+len(p.S) > 4000 {
		return false
	}
	if p.MF && (p.S == "" || len(p.S)%8 != 0) {
		return false
	}
	if p.Off > 0 && p.S == "" {
		return false
	}
	return !p.DF || !p.MF && p.Off == 0
}

// TestValidFlags: P6.1, DF and MF in all combinations, with every offset and payload near the edges.
func TestValidFlags(t *testing.T) {
	for off := -8; off <= 4016; off++ {
		if off > 24 && off < 3976 {
			continue
		}
		for _, size := range []int{0, 1, 7, 8, 9, 16, 24, 3992, 4000, 4001, 4000 - off - 1, 4000 - off, 4000 - off + 1} {
			if size < 0 {
				continue
			}
			for flags := range 4 {
				p := good
				p.Off, p.S, p.DF, p.MF = off, long[:size], flags&1 != 0, flags&2 != 0
				if got := ip.Valid(p); got != placed(p) {
					t.Errorf("Valid(%+v, %d bytes) = %v; want %v", told(p), size, got, !got)
				}
			}
		}
	}
}

// examples are datagrams with their encodings, written out.
var examples = []struct {
	p api.Packet
	s string
}{
	{good, "\x04\x01\x02\x03\x04\x05\x06\x07\x08\x09\x0a\x0b\x0c\x00\x00\x00\x00\x05\xd1\xd6hello"},
	{api.Packet{From: 1, To: api.All, TTL: 1}, "\x04\x00\x00\x00\x01\xff\xff\xff\xff\x00\x01\x00\x00\x00\x00\x00\x00\x00\xf9\xff"},
	{api.Packet{From: api.All - 1, To: 1, Proto: 255, TTL: 255, ID: 65535, MF: true, Off: 3992, S: "12345678"}, "\x04\xff\xff\xff\xfe\x00\x00\x00\x01\xff\xff\xff\xff\x02\x01\xf3\x00\x08\xfa\x0212345678"},
	{api.Packet{From: 1 << 24, To: 1 << 8, Proto: 1, TTL: 32, ID: 256, DF: true, S: "x"}, "\x04\x01\x00\x00\x00\x00\x00\x01\x00\x01\x20\x01\x00\x01\x00\x00\x00\x01\xdb\xf9x"},
}

// TestExamples: P6.1, encodings byte by byte.
func TestExamples(t *testing.T) {
	for _, c := range examples {
		if encoded(c.p) != c.s {
			t.Fatalf("the tests' own encoding of %+v is %x; want %x", c.p, encoded(c.p), c.s)
		}
		if s, e := ip.Encode(c.p); s != c.s || e != api.OK {
			t.Errorf("Encode(%+v) = %x, %d; want %x, OK", c.p, s, e, c.s)
		}
		if p, e := ip.Decode(c.s); p != c.p || e != api.OK {
			t.Errorf("Decode(%x) = %+v, %d; want %+v, OK", c.s, p, e, c.p)
		}
		if p, e := ip.DecodeHeader(c.s); p != c.p || e != api.OK {
			t.Errorf("DecodeHeader(%x) = %+v, %d; want %+v, OK", c.s, p, e, c.p)
		}
	}
}

// TestEncode: P6.1, the encodings of valid datagrams.
func TestEncode(t *testing.T) {
	for _, p := range validPackets() {
		if s, e := ip.Encode(p); s != encoded(p) || e != api.OK {
			t.Errorf("Encode(%+v, %d bytes) = %d bytes, %d; want %d bytes, OK", told(p), len(p.S), len(s), e, len(encoded(p)))
		}
	}
}

// TestEncodeRefuses: P6.1, datagrams that are not valid.
func TestEncodeRefuses(t *testing.T) {
	for _, p := range wrongPackets() {
		if s, e := ip.Encode(p); s != "" || e != api.ErrIp {
			t.Errorf("Encode(%+v, %d bytes) = %d bytes, %d; want ErrIp", told(p), len(p.S), len(s), e)
		}
	}
}

// TestDecode: P6.1 and P6.4, the encodings of valid datagrams, of which DecodeHeader answers the same.
func TestDecode(t *testing.T) {
	for _, p := range validPackets() {
		decodes(t, encoded(p), p)
	}
}

// decodes checks that s is the encoding of p.
func decodes(t *testing.T, s string, p api.Packet) {
	t.Helper()
	if got, e := ip.Decode(s); got != p || e != api.OK {
		t.Errorf("Decode(%x...) = %+v, %d bytes, %d; want %+v, %d bytes, OK", s[:20], told(got), len(got.S), e, told(p), len(p.S))
	}
	if got, e := ip.DecodeHeader(s); got != p || e != api.OK {
		t.Errorf("DecodeHeader(%x...) = %+v, %d bytes, %d; want %+v, %d bytes, OK", s[:20], told(got), len(got.S), e, told(p), len(p.S))
	}
}

// notWhole checks that s is the encoding of no datagram.
func notWhole(t *testing.T, s string) {
	t.Helper()
	if p, e := ip.Decode(s); p != (api.Packet{}) || e != api.ErrIp {
		t.Errorf("Decode of %d bytes, first %x = %+v, %d; want ErrIp", len(s), s[:min(len(s), 24)], told(p), e)
	}
}

// refused checks that s is the encoding of no datagram, not even of its beginning.
func refused(t *testing.T, s string) {
	t.Helper()
	notWhole(t, s)
	if p, e := ip.DecodeHeader(s); p != (api.Packet{}) || e != api.ErrIp {
		t.Errorf("DecodeHeader of %d bytes, first %x = %+v, %d; want ErrIp", len(s), s[:min(len(s), 24)], told(p), e)
	}
}

// TestDecodeRefusesShort: P6.1 and P6.2, fewer than the 20 bytes of a header.
func TestDecodeRefusesShort(t *testing.T) {
	for _, c := range examples {
		for size := range 20 {
			refused(t, c.s[:size])
			refused(t, strings.Repeat("\x00", size))
			refused(t, strings.Repeat("\x04", size))
			refused(t, strings.Repeat("\xff", size))
			refused(t, c.s[len(c.s)-size:])
			if size > 0 && size%2 == 0 {
				refused(t, sealed(c.s[:size-2]+"\x01"))
			}
		}
	}
}

// TestDecodeTruncated: P6.1 and P6.2, encodings cut after the header, of which only DecodeHeader tells what there is.
func TestDecodeTruncated(t *testing.T) {
	for _, p := range validPackets() {
		s := encoded(p)
		for _, size := range []int{0, 1, 2, 7, 8, 9, len(p.S) / 2, len(p.S) - 8, len(p.S) - 2, len(p.S) - 1} {
			if size < 0 || size >= len(p.S) {
				continue
			}
			cut := s[:20+size]
			notWhole(t, cut)
			want := p
			want.S = p.S[:size]
			if got, e := ip.DecodeHeader(cut); got != want || e != api.OK {
				t.Errorf("DecodeHeader(%x...) = %+v, %d bytes, %d; want %+v, %d bytes, OK", cut[:20], told(got), len(got.S), e, told(want), size)
			}
		}
	}
}

// TestDecodeRefusesLonger: P6.1 and P6.2, encodings with something behind or before them.
func TestDecodeRefusesLonger(t *testing.T) {
	for _, p := range validPackets() {
		s := encoded(p)
		for _, more := range []string{"\x00", "\x04", "\xff", "\x00\x00", s, strings.Repeat("\x00", 256), strings.Repeat("\x00", 65536)} {
			refused(t, s+more)
		}
		refused(t, "\x00"+s)
		refused(t, s[1:])
	}
	refused(t, encoded(good)+strings.Repeat("\x00", 1<<24))
	refused(t, strings.Repeat("\x04", 1<<24))
}

// TestDecodeRefusesFields: P6.1 and P6.2, numbers in the header that are not valid, under a right checksum.
func TestDecodeRefusesFields(t *testing.T) {
	wrong := []func(h *raw){
		func(h *raw) { h.from = 0 }, func(h *raw) { h.from = api.All }, func(h *raw) { h.to = 0 }, func(h *raw) { h.ttl = 0 },
		func(h *raw) { h.flags |= 3 }, func(h *raw) { h.flags, h.units = 1, 1 }, func(h *raw) { h.flags, h.units = 1, 499 },
		func(h *raw) { h.units = 500 }, func(h *raw) { h.units = 501 }, func(h *raw) { h.units = 8191 }, func(h *raw) { h.units = 8192 }, func(h *raw) { h.units = 65535 }, func(h *raw) { h.units = 1 << 13 }, func(h *raw) { h.flags, h.units = 2, 500 },
	}
	for n := range 256 {
		if n != 4 {
			wrong = append(wrong, func(h *raw) { h.version = byte(n) })
		}
		if n >= 4 {
			wrong = append(wrong, func(h *raw) { h.flags = byte(n) })
		}
	}
	for _, payload := range []string{"", "a", "abcdefgh", long[:4000]} {
		for _, change := range wrong {
			h := raw{4, 1, 2, 3, 4, 5, 0, 0, uint16(len(payload))}
			change(&h)
			refused(t, h.header()+payload)
			refused(t, h.header())
		}
	}
}

// TestDecodeRefusesLengths: P6.1 and P6.2, lengths in the header that no datagram with its flags and offset has, under a right checksum.
func TestDecodeRefusesLengths(t *testing.T) {
	for units := range 502 {
		for flags := range 4 {
			for _, length := range []int{0, 1, 4, 7, 8, 9, 15, 16, 4000 - 8*units - 8, 4000 - 8*units - 1, 4000 - 8*units, 4000 - 8*units + 1, 4000 - 8*units + 8, 4001, 4008, 32768, 65528, 65535} {
				if length < 0 {
					continue
				}
				h := raw{4, 1, 2, 3, 4, 5, byte(flags), uint16(units), uint16(length)}
				more, dont := flags&2 != 0, flags&1 != 0
				off := 8 * units
				if off+length > 4000 || more && (length == 0 || length%8 != 0) || units > 0 && length == 0 || dont && (more || units > 0) {
					refused(t, h.header())
					refused(t, h.header()+"ab")
					refused(t, h.header()+strings.Repeat("a", length))
					continue
				}
				want := api.Packet{From: 1, To: 2, Proto: 3, TTL: 4, ID: 5, DF: dont, MF: more, Off: off}
				if got, e := ip.DecodeHeader(h.header()); got != want || e != api.OK {
					t.Errorf("DecodeHeader(%x) = %+v, %d; want %+v, OK", h.header(), got, e, want)
				}
				want.S = long[:length]
				decodes(t, h.header()+want.S, want)
			}
		}
	}
}

// TestDecodeRefusesChecksums: P6.1 and P6.2, every checksum but the right one.
func TestDecodeRefusesChecksums(t *testing.T) {
	for _, c := range examples {
		for sum := range 65536 {
			s := string(binary.BigEndian.AppendUint16([]byte(c.s[:18]), uint16(sum))) + c.s[20:]
			if s != c.s {
				refused(t, s)
			}
		}
	}
	// The sum of this header is 65535, so its checksum is 0, and a checksum of 65535 must not pass for it.
	h := raw{4, 1, 2, 3, 4, 0, 0, 0, 0}
	// The bytes of the ID are the low one of a word and the high one of the next.
	h.id = bits.ReverseBytes16(65535 - sumOf(h))
	if s := h.header(); s[18:] != "\x00\x00" {
		t.Fatalf("the header %x has another checksum than 0", s)
	}
	decodes(t, h.header(), api.Packet{From: 1, To: 2, Proto: 3, TTL: 4, ID: int(h.id)})
	refused(t, h.front()+"\xff\xff")
}

// sumOf returns the one's complement sum of a header without its checksum.
func sumOf(h raw) uint16 { return 65535 - binary.BigEndian.Uint16([]byte(h.header()[18:])) }

// TestDecodeRefusesChangedByte: P6.4, every other value of every byte of a header, with the payload, without it and with a part.
func TestDecodeRefusesChangedByte(t *testing.T) {
	packets := append([]api.Packet{}, good)
	for _, c := range examples {
		packets = append(packets, c.p)
	}
	packets = append(packets, api.Packet{From: 255, To: 256, Proto: 255, TTL: 1, ID: 0xff00, Off: 8, S: "\x00\xff"}, api.Packet{From: 0xffff, To: 0xffff0000, Proto: 0, TTL: 255, ID: 0xff, MF: true, S: long[:4000]}, api.Packet{From: 1, To: 2, TTL: 3, S: long[:4000]})
	for _, p := range packets {
		s := encoded(p)
		for at := range 20 {
			for flip := 1; flip <= 255; flip++ {
				x := []byte(s)
				x[at] ^= byte(flip)
				refused(t, string(x))
				refused(t, string(x[:20]))
				refused(t, string(x[:20+len(p.S)/2]))
			}
		}
	}
}

// TestDecodeOfChangedPayload: P6.1, the checksum is that of the header alone, so every byte of a payload is taken as it is.
func TestDecodeOfChangedPayload(t *testing.T) {
	for b := range 256 {
		p := good
		p.S = string([]byte{'a', byte(b), byte(b), 'z', byte(b)})
		decodes(t, encoded(good)[:20]+p.S, p)
	}
}

// anyPacket returns a random valid datagram; many have fields at the ends of their ranges.
func anyPacket(r *rand.Rand) api.Packet {
	pick := func(least, most int) int {
		switch r.IntN(6) {
		case 0:
			return least
		case 1:
			return most
		}
		return least + r.IntN(most-least+1)
	}
	p := api.Packet{From: pick(1, api.All-1), To: pick(1, api.All), Proto: pick(0, 255), TTL: pick(1, 255), ID: pick(0, 65535)}
	switch r.IntN(4) {
	case 0:
		p.S, p.DF = someBytes(r, pick(0, 4000)), true
	case 1:
		p.S = someBytes(r, pick(0, 4000))
	case 2:
		p.Off = 8 * pick(1, 499)
		p.S = someBytes(r, pick(1, 4000-p.Off))
	case 3:
		p.Off, p.MF = 8*pick(0, 499), true
		p.S = someBytes(r, 8*pick(1, 500-p.Off/8))
	}
	return p
}

// TestDecodeInvertsEncode: P6.4, random datagrams.
func TestDecodeInvertsEncode(t *testing.T) {
	r := rand.New(rand.NewPCG(6, 1))
	for range 3000 {
		p := anyPacket(r)
		s, e := ip.Encode(p)
		if s != encoded(p) || e != api.OK || !ip.Valid(p) {
			t.Errorf("Encode(%+v, %d bytes) = %d bytes, %d", told(p), len(p.S), len(s), e)
			continue
		}
		decodes(t, s, p)
	}
}

// TestDecodedIsEncoding: P6.4, of random numbers under right checksums, Decode accepts just those of a valid datagram, and these are what it answers.
func TestDecodedIsEncoding(t *testing.T) {
	r := rand.New(rand.NewPCG(6, 2))
	accepted := 0
	for range 50000 {
		payload := long[:r.IntN(40)]
		h := raw{4, uint32(r.IntN(8)) - 1, uint32(r.IntN(8)) - 1, byte(r.Uint32()), byte(r.IntN(8)), uint16(r.Uint32()), byte(r.IntN(4)), uint16(r.IntN(2) * r.IntN(502)), uint16(len(payload))}
		if r.IntN(4) == 0 {
			h.length += uint16(r.IntN(3)) - 1
		}
		if r.IntN(20) == 0 {
			h.version, h.flags = byte(r.IntN(8)), byte(r.Uint32())
		}
		p := api.Packet{From: int(h.from), To: int(h.to), Proto: int(h.proto), TTL: int(h.ttl), ID: int(h.id), DF: h.flags&1 != 0, MF: h.flags&2 != 0, Off: 8 * int(h.units), S: payload}
		s := h.header() + payload
		if h.version != 4 || h.flags > 3 || h.from == 0 || h.from == api.All || h.to == 0 || h.ttl == 0 || int(h.length) != len(payload) || !placed(p) {
			notWhole(t, s)
			continue
		}
		accepted++
		decodes(t, s, p)
		if again, e := ip.Encode(p); again != s || e != api.OK {
			t.Errorf("Encode(%+v) = %x, %d; want %x, OK", told(p), again, e, s)
		}
	}
	if accepted < 2000 || accepted > 40000 {
		t.Errorf("of 50000 strings, %d are encodings", accepted)
	}
}

// TestDecodeOfAnyBytes: P6.1, random bytes, of which none are a header by chance.
func TestDecodeOfAnyBytes(t *testing.T) {
	r := rand.New(rand.NewPCG(6, 3))
	for range 20000 {
		refused(t, someBytes(r, r.IntN(60)))
	}
}
