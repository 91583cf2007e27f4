package icmp_test

import (
	"encoding/binary"
	"math"
	"math/rand/v2"
	"slices"
	"strings"
	"testing"

	"stagepost/api"
	"stagepost/icmp"
)

// far are ints that no field of a valid message holds, and that the lower bytes of a field may hide.
var far = []int{-1, -2, -5, -255, -256, -1024, -65536, -1 << 32, 1<<32 + 1, 1<<32 + 2, 1<<32 + 68, 1 << 33, 1 << 40, 1<<62 + 1, math.MaxInt, math.MaxInt - 1, math.MinInt, math.MinInt + 1, math.MinInt + 3}

// long is a payload of which the tests take as many bytes as they want; equal pieces of it are rare.
var long = func() string {
	r := rand.New(rand.NewPCG(8, 0))
	return someBytes(r, 5000)
}()

// kinds are the document's table: the codes and the N that go with a kind, and how many bytes S has at most.
var kinds = []struct{ kind, firstCode, lastCode, leastN, mostN, room int }{
	{1, 0, 0, 0, 4294967295, 500},
	{2, 0, 0, 0, 4294967295, 500},
	{3, 1, 4, 0, 0, 28},
	{4, 1, 2, 0, 0, 28},
	{5, 0, 0, 68, 1024, 28},
}

// valid reports whether m is a valid message, worked out without the package.
func valid(m api.ICMPMessage) bool {
	for _, k := range kinds {
		if k.kind == m.Kind {
			return m.Code >= k.firstCode && m.Code <= k.lastCode && m.N >= k.leastN && m.N <= k.mostN && len(m.S) <= k.room
		}
	}
	return false
}

// someBytes returns a string of n random bytes.
func someBytes(r *rand.Rand, n int) string {
	b := make([]byte, n)
	for i := range b {
		b[i] = byte(r.Uint32())
	}
	return string(b)
}

// laid returns the bytes of a message with that checksum, valid or not.
func laid(kind, code byte, sum uint16, n uint32, s string) string {
	b := binary.BigEndian.AppendUint16([]byte{kind, code}, sum)
	return string(binary.BigEndian.AppendUint32(b, n)) + s
}

// sealed returns the bytes of a message with the right checksum, worked out modulo 65535.
func sealed(kind, code byte, n uint32, s string) string {
	all, sum := laid(kind, code, 0, n, s), 0
	for i := range len(all) {
		sum += int(all[i]) << (8 - i%2*8)
	}
	if sum > 0 {
		sum = (sum-1)%65535 + 1
	}
	return laid(kind, code, uint16(65535-sum), n, s)
}

// encoded returns the encoding of a valid message, worked out without the package.
func encoded(m api.ICMPMessage) string {
	return sealed(byte(m.Kind), byte(m.Code), uint32(m.N), m.S)
}

// decoded returns the valid message of which s is the encoding, worked out without the package.
func decoded(s string) (api.ICMPMessage, bool) {
	if len(s) < 8 {
		return api.ICMPMessage{}, false
	}
	m := api.ICMPMessage{Kind: int(s[0]), Code: int(s[1]), N: int(binary.BigEndian.Uint32([]byte(s[4:8]))), S: s[8:]}
	if !valid(m) || encoded(m) != s {
		return api.ICMPMessage{}, false
	}
	return m, true
}

// validMessages are messages of every kind with every code, and at the edges of what else is valid.
func validMessages() []api.ICMPMessage {
	var all []api.ICMPMessage
	for _, k := range kinds {
		for code := k.firstCode; code <= k.lastCode; code++ {
			for _, n := range []int{k.leastN, k.leastN + 1, 68, 69, 255, 256, 576, 1023, 1024, 65535, 65536, 0x01020304, 1<<31 - 1, 1 << 31, k.mostN - 1, k.mostN} {
				if n < k.leastN || n > k.mostN {
					continue
				}
				for _, size := range []int{0, 1, 2, 3, 8, 19, 20, 21, 26, 27, 28, 29, 255, 256, 257, 498, 499, 500} {
					if size > k.room {
						continue
					}
					for _, s := range []string{long[:size], strings.Repeat("\x00", size), strings.Repeat("\xff", size)} {
						all = append(all, api.ICMPMessage{Kind: k.kind, Code: code, N: n, S: s})
					}
				}
			}
		}
	}
	return all
}

// wrongMessages are messages of which one or more fields are not valid.
func wrongMessages() []api.ICMPMessage {
	all := []api.ICMPMessage{{}, {S: "a"}, {Code: 1}, {N: 68}, {Kind: -1, Code: -1, N: -1}, {Kind: 6, Code: 5, N: 1 << 32, S: long[:501]}}
	for _, kind := range append([]int{0, 6, 7, 8, 11, 127, 128, 254, 255, 256, 257, 258, 259, 260, 261, 512}, far...) {
		for _, code := range []int{0, 1, 2, 4} {
			all = append(all, api.ICMPMessage{Kind: kind, Code: code}, api.ICMPMessage{Kind: kind, Code: code, N: 68, S: "a"})
		}
	}
	for _, k := range kinds {
		good := api.ICMPMessage{Kind: k.kind, Code: k.firstCode, N: k.leastN, S: "hi"}
		for _, code := range append([]int{k.firstCode - 1, k.lastCode + 1, 5, 6, 255, 256, 256 + k.firstCode}, far...) {
			m := good
			m.Code = code
			all = append(all, m)
		}
		for _, n := range append([]int{k.leastN - 1, k.mostN + 1, 1 << 32, 1<<32 + k.leastN}, far...) {
			m := good
			m.N = n
			all = append(all, m)
		}
		for _, size := range []int{k.room + 1, k.room + 2, 501, 502, 508, 512, 1024, 4000} {
			m := good
			m.S = long[:size]
			all = append(all, m)
		}
		for _, size := range []int{65536, 65536 + k.room, 1 << 20} {
			m := good
			m.S = strings.Repeat("b", size)
			all = append(all, m)
		}
	}
	for _, n := range []int{1, 2, 28, 67, 68, 1024, 65536, 4294967295} {
		all = append(all, api.ICMPMessage{Kind: 3, Code: 1, N: n}, api.ICMPMessage{Kind: 3, Code: 4, N: n}, api.ICMPMessage{Kind: 4, Code: 1, N: n}, api.ICMPMessage{Kind: 4, Code: 2, N: n})
	}
	for _, n := range []int{0, 1, 28, 66, 67, 1025, 1026, 1092, 65536 + 68, 4294967295} {
		all = append(all, api.ICMPMessage{Kind: 5, N: n})
	}
	return all
}

// told shows a message without the whole of its payload.
func told(m api.ICMPMessage) api.ICMPMessage {
	m.S = m.S[:min(len(m.S), 12)]
	return m
}

// TestValid: P8.1, each field at the ends of its range and just outside, and ints far outside.
func TestValid(t *testing.T) {
	for _, m := range validMessages() {
		if !icmp.Valid(m) {
			t.Errorf("Valid(%+v, %d bytes) = false", told(m), len(m.S))
		}
	}
	for _, m := range wrongMessages() {
		if valid(m) {
			t.Fatalf("%+v, %d bytes, is valid", told(m), len(m.S))
		}
		if icmp.Valid(m) {
			t.Errorf("Valid(%+v, %d bytes) = true", told(m), len(m.S))
		}
	}
}

// TestValidEach: P8.1, kinds, codes, N and sizes of S in all combinations: whichever of several faults there are, the message is not valid.
func TestValidEach(t *testing.T) {
	numbers := []int{math.MinInt, -1, 0, 1, 27, 28, 67, 68, 69, 500, 1023, 1024, 1025, 65535, 1<<32 - 2, 1<<32 - 1, 1 << 32, math.MaxInt}
	for _, kind := range []int{math.MinInt, -2, -1, 0, 1, 2, 3, 4, 5, 6, 7, 8, 256, 257, math.MaxInt} {
		for _, code := range []int{math.MinInt, -1, 0, 1, 2, 3, 4, 5, 6, 256, 257, math.MaxInt} {
			for _, n := range numbers {
				for _, size := range []int{0, 1, 27, 28, 29, 499, 500, 501} {
					m := api.ICMPMessage{Kind: kind, Code: code, N: n, S: long[:size]}
					if got := icmp.Valid(m); got != valid(m) {
						t.Errorf("Valid(%+v, %d bytes) = %v; want %v", told(m), size, got, !got)
					}
				}
			}
		}
	}
}

// examples are messages with their encodings, written out; the first one is the document's.
var examples = []struct {
	m api.ICMPMessage
	s string
}{
	{api.ICMPMessage{Kind: api.MEcho, N: 7, S: "a"}, "\x01\x00\x9d\xf8\x00\x00\x00\x07a"},
	{api.ICMPMessage{Kind: api.MEcho}, "\x01\x00\xfe\xff\x00\x00\x00\x00"},
	{api.ICMPMessage{Kind: api.MReply, N: 0x01020304}, "\x02\x00\xf9\xf9\x01\x02\x03\x04"},
	{api.ICMPMessage{Kind: api.MReply, N: 4294967295, S: "\x00\x01"}, "\x02\x00\xfd\xfe\xff\xff\xff\xff\x00\x01"},
	{api.ICMPMessage{Kind: api.MGone, Code: api.GoneHost}, "\x03\x02\xfc\xfd\x00\x00\x00\x00"},
	{api.ICMPMessage{Kind: api.MGone, Code: api.GonePort, S: "xyz"}, "\x03\x04\x0a\x82\x00\x00\x00\x00xyz"},
	{api.ICMPMessage{Kind: api.MLate, Code: api.LateParts, S: "\xff"}, "\x04\x02\xfc\xfc\x00\x00\x00\x00\xff"},
	{api.ICMPMessage{Kind: api.MBig, N: 1024, S: "ab"}, "\x05\x00\x95\x9d\x00\x00\x04\x00ab"},
	{api.ICMPMessage{Kind: api.MBig, N: 68}, "\x05\x00\xfa\xbb\x00\x00\x00\x44"},
}

// decodes checks that s is the encoding of m.
func decodes(t *testing.T, s string, m api.ICMPMessage) {
	t.Helper()
	if got, e := icmp.Decode(s); got != m || e != api.OK {
		t.Errorf("Decode(%x...) = %+v, %d bytes, %d; want %+v, %d bytes, OK", s[:8], told(got), len(got.S), e, told(m), len(m.S))
	}
}

// refused checks that s is the encoding of no message.
func refused(t *testing.T, s string) {
	t.Helper()
	if m, e := icmp.Decode(s); m != (api.ICMPMessage{}) || e != api.ErrIcmp {
		t.Errorf("Decode of %d bytes, first %x = %+v, %d; want ErrIcmp", len(s), s[:min(len(s), 16)], told(m), e)
	}
}

// judged checks that Decode answers of s what it is to, and reports whether s is the encoding of a message.
func judged(t *testing.T, s string) bool {
	t.Helper()
	m, ok := decoded(s)
	if ok {
		decodes(t, s, m)
	} else {
		refused(t, s)
	}
	return ok
}

// TestExamples: P8.1, encodings byte by byte.
func TestExamples(t *testing.T) {
	for _, c := range examples {
		if encoded(c.m) != c.s {
			t.Fatalf("the tests' own encoding of %+v is %x; want %x", c.m, encoded(c.m), c.s)
		}
		if s, e := icmp.Encode(c.m); s != c.s || e != api.OK {
			t.Errorf("Encode(%+v) = %x, %d; want %x, OK", c.m, s, e, c.s)
		}
		decodes(t, c.s, c.m)
	}
}

// TestEncode: P8.1 and P8.4, the encodings of valid messages, of which Decode answers these.
func TestEncode(t *testing.T) {
	for _, m := range validMessages() {
		s, e := icmp.Encode(m)
		if s != encoded(m) || e != api.OK {
			t.Errorf("Encode(%+v, %d bytes) = %d bytes, first %x, %d; want %x..., OK", told(m), len(m.S), len(s), s[:min(len(s), 8)], e, encoded(m)[:8])
		}
		decodes(t, encoded(m), m)
	}
}

// TestEncodeRefuses: P8.1, messages that are not valid.
func TestEncodeRefuses(t *testing.T) {
	for _, m := range wrongMessages() {
		if s, e := icmp.Encode(m); s != "" || e != api.ErrIcmp {
			t.Errorf("Encode(%+v, %d bytes) = %d bytes, %d; want ErrIcmp", told(m), len(m.S), len(s), e)
		}
	}
}

// TestDecodeRefusesShort: P8.1, fewer than the 8 bytes in front of S, also where the checksum of what there is would be right.
func TestDecodeRefusesShort(t *testing.T) {
	for size := range 8 {
		for _, c := range examples {
			refused(t, c.s[:size])
			refused(t, c.s[len(c.s)-size:])
		}
		refused(t, strings.Repeat("\x00", size))
		refused(t, strings.Repeat("\x01", size))
		refused(t, strings.Repeat("\xff", size))
	}
	for _, k := range kinds {
		for code := range byte(6) {
			whole := sealed(byte(k.kind), code, 0, "")
			for size := range 8 {
				refused(t, whole[:size])
			}
			refused(t, sealed(byte(k.kind), code, 68<<16, "")[:7])
			refused(t, sealed(byte(k.kind), code, 68<<16, "")[:6])
		}
	}
}

// TestDecodeRefusesChangedByte: P8.1 and P8.4, every other value of every byte.
func TestDecodeRefusesChangedByte(t *testing.T) {
	messages := []api.ICMPMessage{{Kind: 1, N: 1 << 31, S: long[:500]}, {Kind: 2, N: 4294967295, S: long[:499]}, {Kind: 3, Code: 1, S: long[:28]}, {Kind: 4, Code: 1, S: long[:27]}, {Kind: 5, N: 256, S: long[:28]}, {Kind: 1, S: "\xfe\xff"}}
	for _, c := range examples {
		messages = append(messages, c.m)
	}
	for _, m := range messages {
		s := encoded(m)
		for at := range len(s) {
			for flip := 1; flip <= 255; flip++ {
				b := []byte(s)
				b[at] ^= byte(flip)
				refused(t, string(b))
			}
		}
	}
}

// TestDecodeOtherLength: P8.1 and P8.4, a byte removed at each place or added there; only where this gives the encoding of another message is it taken.
func TestDecodeOtherLength(t *testing.T) {
	accepted := 0
	for _, m := range validMessages() {
		if len(m.S) > 30 && len(m.S) < 499 {
			continue
		}
		s := encoded(m)
		places := []int{0, 1, 2, 3, 4, 5, 6, 7, 8, 9, len(s) / 2, len(s) - 2, len(s) - 1, len(s)}
		for _, at := range places {
			if at < len(s) && judged(t, s[:at]+s[at+1:]) {
				accepted++
			}
			for _, more := range []string{"\x00", "\x01", "a", "\xff", "\x00\x00", "\xff\xff"} {
				if at <= len(s) && judged(t, s[:at]+more+s[at:]) {
					accepted++
				}
			}
		}
	}
	if accepted == 0 {
		t.Error("none of them was the encoding of a message")
	}
	// A zero byte behind an odd S does not change the checksum, and makes the encoding of another message.
	decodes(t, "\x01\x00\x9d\xf8\x00\x00\x00\x07a\x00", api.ICMPMessage{Kind: 1, N: 7, S: "a\x00"})
	refused(t, "\x01\x00\x9d\xf8\x00\x00\x00\x07\x00a")
	refused(t, "\x01\x00\x9d\xf8\x00\x00\x00\x07")
	refused(t, "\x00\x01\x00\x9d\xf8\x00\x00\x00\x07a")
	// There is no room for it behind the longest S.
	refused(t, encoded(api.ICMPMessage{Kind: 1, S: long[:500]})+"\x00")
	refused(t, encoded(api.ICMPMessage{Kind: 3, Code: 1, S: long[:28]})+"\x00")
}

// TestDecodeKindsAndCodes: P8.1, every kind with every code, N and sizes of S at the edges, under a right checksum.
func TestDecodeKindsAndCodes(t *testing.T) {
	accepted := 0
	for kind := range 256 {
		for code := range 256 {
			if kind > 8 && kind < 253 && code > 5 {
				continue
			}
			for _, n := range []uint32{0, 1, 67, 68, 1024, 1025, 68 << 16, 1<<32 - 1} {
				for _, size := range []int{0, 28, 29} {
					if judged(t, sealed(byte(kind), byte(code), n, long[:size])) {
						accepted++
					}
				}
			}
		}
	}
	if accepted != 2*8*3+6*1*2+1*2*2 {
		t.Errorf("%d were accepted", accepted)
	}
}

// TestDecodeRefusesFields: P8.1, a kind, code, N or length that is not valid, under a right checksum.
func TestDecodeRefusesFields(t *testing.T) {
	for _, k := range kinds {
		kind, code, n := byte(k.kind), byte(k.firstCode), uint32(k.leastN)
		decodes(t, sealed(kind, code, n, "ab"), api.ICMPMessage{Kind: k.kind, Code: k.firstCode, N: k.leastN, S: "ab"})
		refused(t, sealed(kind+5, code, n, "ab"))
		refused(t, sealed(kind|0x80, code, n, "ab"))
		refused(t, sealed(kind, byte(k.firstCode-1), n, "ab"))
		refused(t, sealed(kind, byte(k.lastCode+1), n, "ab"))
		if k.mostN < 4294967295 {
			refused(t, sealed(kind, code, uint32(k.leastN-1), "ab"))
			refused(t, sealed(kind, code, uint32(k.mostN+1), "ab"))
			refused(t, sealed(kind, code, 4294967295, "ab"))
		}
		for _, size := range []int{k.room + 1, k.room + 2, 501, 1024, 4000} {
			refused(t, sealed(kind, code, n, long[:size]))
			refused(t, sealed(kind, code, n, strings.Repeat("\x00", size)))
		}
		refused(t, sealed(kind, code, n, strings.Repeat("\x00", 1<<20)))
	}
	refused(t, sealed(0, 0, 0, ""))
	refused(t, strings.Repeat("\x00", 8))
	refused(t, "\x00\x00\xff\xff\x00\x00\x00\x00")
	refused(t, strings.Repeat("\xff", 8))
	refused(t, strings.Repeat("\x01", 1<<24))
}

// TestDecodeRefusesChecksums: P8.1, every checksum but the right one.
func TestDecodeRefusesChecksums(t *testing.T) {
	for _, c := range examples {
		for sum := range 65536 {
			s := laid(byte(c.m.Kind), byte(c.m.Code), uint16(sum), uint32(c.m.N), c.m.S)
			if s == c.s {
				continue
			}
			refused(t, s)
		}
	}
}

// TestChecksumZero: P8.1, messages whose bytes add up to 65535, so that their checksum is 0, and 65535 must not pass for it.
func TestChecksumZero(t *testing.T) {
	for _, m := range []api.ICMPMessage{
		{Kind: api.MEcho, S: "\xfe\xff"}, {Kind: api.MEcho, N: 0xfeff}, {Kind: api.MEcho, N: 0xfe000000, S: "\x00\xff"}, {Kind: api.MReply, S: "\xfd\x00\x00\xff"},
		{Kind: api.MReply, N: 0xff, S: "\xfd"}, {Kind: api.MGone, Code: 1, S: "\xfc\xfe"}, {Kind: api.MLate, Code: 2, S: "\xff\xff\xfb\xfd"}, {Kind: api.MBig, N: 255, S: "\xfa"},
	} {
		s := laid(byte(m.Kind), byte(m.Code), 0, uint32(m.N), m.S)
		if got, e := icmp.Encode(m); got != s || e != api.OK {
			t.Errorf("Encode(%+v) = %x, %d; want %x, OK", m, got, e, s)
		}
		decodes(t, s, m)
		refused(t, laid(byte(m.Kind), byte(m.Code), 65535, uint32(m.N), m.S))
	}
}

// anyMessage returns a random valid message; many have fields at the ends of their ranges.
func anyMessage(r *rand.Rand) api.ICMPMessage {
	pick := func(least, most int) int {
		switch r.IntN(6) {
		case 0:
			return least
		case 1:
			return most
		}
		return least + r.IntN(most-least+1)
	}
	k := kinds[r.IntN(len(kinds))]
	return api.ICMPMessage{Kind: k.kind, Code: pick(k.firstCode, k.lastCode), N: pick(k.leastN, k.mostN), S: someBytes(r, pick(0, k.room))}
}

// TestDecodeInvertsEncode: P8.4, random messages, and what a random change makes of their encodings.
func TestDecodeInvertsEncode(t *testing.T) {
	r := rand.New(rand.NewPCG(8, 1))
	for range 20000 {
		m := anyMessage(r)
		s, e := icmp.Encode(m)
		if s != encoded(m) || e != api.OK || !icmp.Valid(m) {
			t.Errorf("Encode(%+v, %d bytes) = %d bytes, %d", told(m), len(m.S), len(s), e)
			continue
		}
		decodes(t, s, m)
		b := []byte(s)
		for range 1 + r.IntN(3) {
			b[r.IntN(min(len(b), 12))] = []byte{0, 1, 255, byte(r.Uint32())}[r.IntN(4)]
		}
		judged(t, string(b))
		// Two words that change places leave the checksum as it is.
		b = []byte(s)
		i, j := 2*r.IntN(len(b)/2), 2*r.IntN(len(b)/2)
		b[i], b[i+1], b[j], b[j+1] = b[j], b[j+1], b[i], b[i+1]
		judged(t, string(b))
	}
}

// TestDecodedIsEncoding: P8.4, of random numbers under right checksums, Decode accepts just those of a valid message, and Encode answers the same string of it.
func TestDecodedIsEncoding(t *testing.T) {
	r := rand.New(rand.NewPCG(8, 2))
	accepted := 0
	for range 50000 {
		n := []uint32{0, 1, 68, uint32(r.IntN(1100)), r.Uint32()}[r.IntN(5)]
		size := []int{r.IntN(32), r.IntN(600)}[r.IntN(2)]
		s := sealed(byte(r.IntN(7)), byte(r.IntN(3)), n, long[:size])
		if !judged(t, s) {
			continue
		}
		accepted++
		m, _ := icmp.Decode(s)
		if again, e := icmp.Encode(m); again != s || e != api.OK {
			t.Errorf("Encode(%+v) = %x, %d; want %x, OK", told(m), again, e, s)
		}
	}
	if accepted < 2000 || accepted > 40000 {
		t.Errorf("of 50000 strings, %d are encodings", accepted)
	}
}

// TestDecodeOfAnyBytes: P8.1, random bytes.
func TestDecodeOfAnyBytes(t *testing.T) {
	r := rand.New(rand.NewPCG(8, 3))
	for range 20000 {
		judged(t, someBytes(r, r.IntN(60)))
	}
}

// TestSeveralAnswers: R4, an answer hangs on nothing that was asked before.
func TestSeveralAnswers(t *testing.T) {
	all, wrong := validMessages(), wrongMessages()
	slices.Reverse(all)
	for i, m := range all {
		icmp.Encode(wrong[i%len(wrong)])
		icmp.Decode("wrong")
		if s, e := icmp.Encode(m); s != encoded(m) || e != api.OK {
			t.Errorf("Encode(%+v) = %d bytes, %d", told(m), len(s), e)
		}
	}
}
