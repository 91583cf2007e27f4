package link_test

import (
	"encoding/binary"
	"hash/crc32"
	"math"
	"math/rand/v2"
	"strings"
	"testing"

	"stagepost/api"
	"stagepost/link"
)

// far are ints that no field of a valid frame holds, and that the lower bytes of a field may hide.
var far = []int{-1, -2, -255, -256, -65535, -65536, 65536, 65537, 65538, 1<<17 + 1, 1<<32 + 1, 1<<32 + 2, 1 << 62, math.MaxInt, math.MaxInt - 1, math.MinInt, math.MinInt + 1}

// good is a valid frame, of which the tests change one field or another.
var good = api.Frame{To: 0x0102, From: 0x0304, Kind: api.KIp, S: "hi"}

// sealed returns s with its checksum behind it, worked out by the library.
func sealed(s string) string {
	return string(binary.BigEndian.AppendUint32([]byte(s), crc32.ChecksumIEEE([]byte(s))))
}

// laid returns the fixed fields with the payload and the right checksum behind them, valid or not.
func laid(to, from uint16, kind byte, length uint16, payload string) string {
	b := binary.BigEndian.AppendUint16(nil, to)
	b = binary.BigEndian.AppendUint16(b, from)
	b = binary.BigEndian.AppendUint16(append(b, kind), length)
	return sealed(string(b) + payload)
}

// encoded returns the encoding of a valid frame, worked out without the package.
func encoded(f api.Frame) string {
	return laid(uint16(f.To), uint16(f.From), byte(f.Kind), uint16(len(f.S)), f.S)
}

// someBytes returns a string of n random bytes.
func someBytes(r *rand.Rand, n int) string {
	b := make([]byte, n)
	for i := range b {
		b[i] = byte(r.Uint32())
	}
	return string(b)
}

// anyFrame returns a random valid frame; many have fields at the ends of their ranges.
func anyFrame(r *rand.Rand) api.Frame {
	f := api.Frame{To: 1 + r.IntN(api.AllMac), From: 1 + r.IntN(api.MaxMac), Kind: 1 + r.IntN(2), S: someBytes(r, r.IntN(r.IntN(api.MaxPay+1)+1))}
	if r.IntN(4) == 0 {
		f.To = api.AllMac
	}
	if r.IntN(4) == 0 {
		f.From = api.MaxMac
	}
	return f
}

// validFrames are frames at the edges of what is valid.
func validFrames() []api.Frame {
	frames := []api.Frame{good, {To: 65535, From: 2, Kind: api.KArp, S: "a"}, {To: 7, From: 7, Kind: 1}, {To: 65534, From: 65534, Kind: 2, S: encoded(good)}}
	for _, to := range []int{1, 2, 255, 256, 32768, 65534, 65535} {
		for _, from := range []int{1, 2, 255, 256, 32768, 65533, 65534} {
			for _, kind := range []int{1, 2} {
				frames = append(frames, api.Frame{To: to, From: from, Kind: kind}, api.Frame{To: to, From: from, Kind: kind, S: "\x00"})
			}
		}
	}
	for _, size := range []int{0, 1, 2, 255, 256, 257, 1023, 1024} {
		for _, part := range []string{"\x00", "\xff", "b"} {
			f := good
			f.S = strings.Repeat(part, size)
			frames = append(frames, f)
		}
	}
	return frames
}

// wrongFrames are frames of which one or more fields are not valid.
func wrongFrames() []api.Frame {
	frames := []api.Frame{{}, {S: "a"}, {To: 1}, {From: 1}, {Kind: 1}, {To: 1, From: 1}, {To: 1, Kind: 1}, {From: 1, Kind: 1}, {To: -1, From: -1, Kind: -1}, {To: 65535, From: 65535, Kind: 1}, {To: 0, From: 0, Kind: 2, S: "ab"}}
	for _, n := range append([]int{0, 65536}, far...) {
		f := good
		f.To = n
		frames = append(frames, f)
	}
	for _, n := range append([]int{0, 65535}, far...) {
		f := good
		f.From = n
		frames = append(frames, f)
	}
	for _, n := range append([]int{0, 3, 4, 255, 256, 257, 258, 65535}, far...) {
		f := good
		f.Kind = n
		frames = append(frames, f)
	}
	for _, size := range []int{1025, 1026, 1280, 2048, 65535, 65536, 65536 + 2, 65536 + 1024, 1 << 20} {
		f := good
		f.S = strings.Repeat("b", size)
		frames = append(frames, f)
	}
	return frames
}

// TestValid: P4.1, each field at the ends of its range and just outside, and ints far outside.
func TestValid(t *testing.T) {
	for _, f := range validFrames() {
		if !link.Valid(f) {
			t.Errorf("Valid(%d, %d, %d, %d bytes) = false", f.To, f.From, f.Kind, len(f.S))
		}
	}
	for _, f := range wrongFrames() {
		if link.Valid(f) {
			t.Errorf("Valid(%d, %d, %d, %d bytes) = true", f.To, f.From, f.Kind, len(f.S))
		}
	}
}

// examples are frames with their encodings, written out.
var examples = []struct {
	f api.Frame
	s string
}{
	{api.Frame{To: 65535, From: 2, Kind: api.KArp, S: "a"}, "\xff\xff\x00\x02\x01\x00\x01a\x30\x8d\xc7\x35"},
	{api.Frame{To: 1, From: 65534, Kind: api.KIp}, "\x00\x01\xff\xfe\x02\x00\x00\xf9\x69\x7e\xad"},
	{good, "\x01\x02\x03\x04\x02\x00\x02hi\xf9\x20\xe0\x46"},
}

// TestExamples: P4.1, encodings byte by byte, among them the document's.
func TestExamples(t *testing.T) {
	for _, c := range examples {
		if s, e := link.Encode(c.f); s != c.s || e != api.OK {
			t.Errorf("Encode(%#v) = %x, %d; want %x, OK", c.f, s, e, c.s)
		}
		if f, e := link.Decode(c.s); f != c.f || e != api.OK {
			t.Errorf("Decode(%x) = %#v, %d; want %#v, OK", c.s, f, e, c.f)
		}
	}
}

// TestEncode: P4.1, the encodings of valid frames.
func TestEncode(t *testing.T) {
	for _, f := range validFrames() {
		if s, e := link.Encode(f); s != encoded(f) || e != api.OK {
			t.Errorf("Encode(%#v) = %x, %d; want %x, OK", f, s, e, encoded(f))
		}
	}
}

// TestEncodeRefuses: P4.1, frames that are not valid.
func TestEncodeRefuses(t *testing.T) {
	for _, f := range wrongFrames() {
		if s, e := link.Encode(f); s != "" || e != api.ErrLink {
			t.Errorf("Encode(%d, %d, %d, %d bytes) = %d bytes, %d; want ErrLink", f.To, f.From, f.Kind, len(f.S), len(s), e)
		}
	}
}

// TestDecode: P4.1, the encodings of valid frames.
func TestDecode(t *testing.T) {
	for _, f := range validFrames() {
		if got, e := link.Decode(encoded(f)); got != f || e != api.OK {
			t.Errorf("Decode(%x) = %#v, %d; want %#v, OK", encoded(f), got, e, f)
		}
	}
}

// refused checks that s is the encoding of no frame.
func refused(t *testing.T, s string) {
	t.Helper()
	if f, e := link.Decode(s); f != (api.Frame{}) || e != api.ErrLink {
		t.Errorf("Decode of %d bytes, first %x = %#v, %d; want ErrLink", len(s), s[:min(len(s), 40)], f, e)
	}
}

// TestDecodeRefusesSizes: P4.1, strings shorter than the shortest encoding or longer than the longest, with and without a right checksum.
func TestDecodeRefusesSizes(t *testing.T) {
	start := laid(1, 2, api.KArp, 0, "")[:7]
	for size := range 40 {
		refused(t, strings.Repeat("\x00", size))
		refused(t, strings.Repeat("\x01", size))
		refused(t, strings.Repeat("\xff", size))
	}
	for size := range 7 {
		refused(t, start[:size])
		refused(t, sealed(start[:size]))
	}
	for _, size := range []int{1025, 1026, 2048, 65535} {
		refused(t, laid(1, 2, api.KArp, uint16(size), strings.Repeat("b", size)))
	}
	for _, size := range []int{65536, 65537, 65536 + 1024, 1 << 24} {
		refused(t, laid(1, 2, api.KArp, uint16(size), strings.Repeat("b", size)))
	}
}

// TestDecodeRefusesLengths: P4.1, a length field that is not the payload's size, under a right checksum.
func TestDecodeRefusesLengths(t *testing.T) {
	for _, size := range []int{0, 1, 2, 3, 4, 5, 255, 256, 1023, 1024} {
		payload := strings.Repeat("b", size)
		for _, length := range []int{0, 1, size - 4, size - 3, size - 2, size - 1, size + 1, size + 2, size + 3, size + 4, size + 7, size + 11, size + 256, size ^ 256, 1024, 1025, 32767, 32768, 65535, -size} {
			if uint16(length) != uint16(size) {
				refused(t, laid(1, 2, api.KArp, uint16(length), payload))
			}
		}
	}
}

// TestDecodeRefusesFields: P4.1, fields that are not valid, under a right checksum.
func TestDecodeRefusesFields(t *testing.T) {
	for _, payload := range []string{"", "a", strings.Repeat("b", 1024)} {
		length := uint16(len(payload))
		refused(t, laid(0, 2, api.KArp, length, payload))
		refused(t, laid(1, 0, api.KArp, length, payload))
		refused(t, laid(1, 65535, api.KArp, length, payload))
		refused(t, laid(65535, 65535, api.KIp, length, payload))
		refused(t, laid(0, 0, 0, length, payload))
		for _, kind := range []byte{0, 3, 4, 127, 128, 129, 130, 254, 255} {
			refused(t, laid(1, 2, kind, length, payload))
		}
	}
}

// TestDecodeRefusesChecksums: P4.1, checksums that are not that of all that is before them.
func TestDecodeRefusesChecksums(t *testing.T) {
	for _, f := range []api.Frame{good, {To: 1, From: 2, Kind: 1}, {To: 1, From: 2, Kind: 1, S: strings.Repeat("b", 1024)}} {
		s := encoded(f)
		front, sum := s[:len(s)-4], s[len(s)-4:]
		least := binary.LittleEndian.Uint32([]byte(sum))
		for _, other := range []uint32{0, 1, math.MaxUint32, ^binary.BigEndian.Uint32([]byte(sum)), least, least + 1, binary.BigEndian.Uint32([]byte(sum)) + 1, crc32.ChecksumIEEE([]byte(f.S)), crc32.ChecksumIEEE([]byte(s)), crc32.ChecksumIEEE([]byte(s[1:])), crc32.Checksum([]byte(front), crc32.MakeTable(crc32.Castagnoli))} {
			if wrong := string(binary.BigEndian.AppendUint32([]byte(front), other)); wrong != s {
				refused(t, wrong)
			}
		}
		refused(t, front)
		refused(t, sum+front)
		refused(t, front+sum+sum)
	}
}

// TestAddressedTo: P4.1, frames to the interface, to all and to others, its own frames, and frames that are not valid.
func TestAddressedTo(t *testing.T) {
	for _, c := range []struct {
		to, from, mac int
		want          bool
	}{
		{1, 2, 1, true}, {65534, 1, 65534, true}, {300, 2, 300, true}, {1, 2, 2, false}, {1, 2, 3, false}, {1, 3, 2, false}, {256, 2, 1, false}, {257, 2, 1, false}, {65534, 2, 1, false}, {65534, 2, 65533, false},
		{65535, 2, 1, true}, {65535, 1, 65534, true}, {65535, 2, 2, false}, {65535, 65534, 65534, false}, {1, 1, 1, false}, {1, 1, 2, false}, {2, 1, 1, false},
		{0, 0, 1, false}, {0, 1, 0, true}, {0, 0, 0, false}, {65535, 0, 0, false}, {65535, 65535, 65535, false}, {65535, 65535, 1, true}, {65535, 1, 65535, true}, {65535, 1, 0, true}, {65535, 1, -1, true}, {1, 2, 65535, false},
		{7, -1, 7, true}, {-1, 7, -1, true}, {-1, 7, 65535, false}, {-1, 1, 1, false}, {65536, 1, 65536, true}, {65536, 1, 2, false}, {65536, 1, 0, false}, {65537, 2, 1, false}, {1, 65537, 1, true}, {131071, 1, 2, false},
		{math.MaxInt, math.MinInt, math.MaxInt, true}, {math.MinInt, math.MaxInt, math.MinInt, true}, {math.MinInt, math.MinInt, math.MinInt, false}, {math.MaxInt, 1, math.MinInt, false}, {65535, math.MinInt, math.MaxInt, true}, {65535, math.MinInt, math.MinInt, false},
	} {
		for _, kind := range []int{0, 1, 2, 3, -1} {
			for _, s := range []string{"", "a", strings.Repeat("b", 1025)} {
				if got := link.AddressedTo(api.Frame{To: c.to, From: c.from, Kind: kind, S: s}, c.mac); got != c.want {
					t.Errorf("AddressedTo(To %d, From %d, Kind %d, %d bytes; %d) = %v; want %v", c.to, c.from, kind, len(s), c.mac, got, c.want)
				}
			}
		}
	}
}

// TestDecodeInvertsEncode: P4.2, random frames.
func TestDecodeInvertsEncode(t *testing.T) {
	r := rand.New(rand.NewPCG(4, 1))
	for range 5000 {
		f := anyFrame(r)
		s, e := link.Encode(f)
		if s != encoded(f) || e != api.OK {
			t.Errorf("Encode(%#v) = %x, %d; want %x, OK", f, s, e, encoded(f))
		}
		if got, e := link.Decode(s); got != f || e != api.OK {
			t.Errorf("Decode(%x) = %#v, %d; want %#v, OK", s, got, e, f)
		}
	}
}

// someNumber returns a random number of 16 bits; many are at the ends of the range.
func someNumber(r *rand.Rand) uint16 {
	if r.IntN(3) > 0 {
		return uint16(r.Uint32())
	}
	return uint16(r.IntN(4)) - 2
}

// TestDecodedIsEncoding: P4.2, of random fields under right checksums, Decode accepts just those that are valid, and they are what it answers.
func TestDecodedIsEncoding(t *testing.T) {
	r := rand.New(rand.NewPCG(4, 2))
	accepted := 0
	for range 50000 {
		size := r.IntN(40)
		length := size
		if r.IntN(4) == 0 {
			length += r.IntN(5) - 2
		}
		to, from, kind, payload := someNumber(r), someNumber(r), byte(r.IntN(4)), someBytes(r, size)
		s := laid(to, from, kind, uint16(length), payload)
		if to == 0 || from == 0 || from == 65535 || kind == 0 || kind == 3 || length != size {
			refused(t, s)
			continue
		}
		accepted++
		f, e := link.Decode(s)
		if want := (api.Frame{To: int(to), From: int(from), Kind: int(kind), S: payload}); f != want || e != api.OK {
			t.Errorf("Decode(%x) = %#v, %d; want %#v, OK", s, f, e, want)
		}
		if again, e := link.Encode(f); again != s || e != api.OK {
			t.Errorf("Encode(%#v) = %x, %d; want %x, OK", f, again, e, s)
		}
	}
	if accepted < 5000 || accepted > 45000 {
		t.Errorf("of 50000 strings, %d are encodings", accepted)
	}
}

// TestDecodeOfAnyBytes: P4.2, random bytes, of which none have the checksum by chance.
func TestDecodeOfAnyBytes(t *testing.T) {
	r := rand.New(rand.NewPCG(4, 3))
	for range 20000 {
		refused(t, someBytes(r, r.IntN(60)))
	}
}

// TestDecodeRefusesChangedByte: P4.2, every other value of every byte of short encodings, and of many bytes of long ones.
func TestDecodeRefusesChangedByte(t *testing.T) {
	for _, size := range []int{0, 1, 2, 30, 249, 1024} {
		s := encoded(api.Frame{To: 0x0102, From: 0x00ff, Kind: 1, S: strings.Repeat("\x00x", 512)[:size]})
		for at := range s {
			for flip := 1; flip <= 255; flip++ {
				if size == 1024 && at > 20 && at < len(s)-20 && flip&(flip-1) != 0 {
					continue
				}
				x := []byte(s)
				x[at] ^= byte(flip)
				refused(t, string(x))
			}
		}
	}
}

// TestDecodeRefusesPieces: P4.2, every beginning, end and middle of encodings, and encodings with something before or behind them.
func TestDecodeRefusesPieces(t *testing.T) {
	for _, size := range []int{0, 1, 40, 1023, 1024} {
		s := encoded(api.Frame{To: 1, From: 2, Kind: 2, S: strings.Repeat("\x00", size)})
		for at := range s {
			refused(t, s[:at])
			refused(t, s[:at]+s[at+1:])
			if at > 0 {
				refused(t, s[at:])
			}
		}
		for b := range 256 {
			refused(t, s+string([]byte{byte(b)}))
			refused(t, string([]byte{byte(b)})+s)
		}
		for _, more := range []string{s, "\x00\x00", "\x00\x00\x00\x00", strings.Repeat("\x00", 11), strings.Repeat("\x00", 65536), strings.Repeat("\x00", 1<<20)} {
			refused(t, s+more)
			refused(t, sealed(s+more))
		}
	}
}
