package arp_test

import (
	"encoding/binary"
	"math"
	"math/rand/v2"
	"slices"
	"strconv"
	"strings"
	"testing"

	"stagepost/api"
	"stagepost/arp"
)

// The table of most tests.
const (
	own = 10
	mac = 5
)

// far are ints outside every range, and some whose lower bytes are inside.
var far = []int{-1, -2, -255, -65535, -65536, -api.All, api.All + 1, api.All + 2, 1 << 33, 1<<40 + 1, 1 << 62, math.MaxInt, math.MaxInt - 1, math.MinInt, math.MinInt + 1}

// The edges of what is valid, and the nearest that is not.
var (
	goodAddrs  = []int{1, 2, 255, 256, 65535, 65536, 1 << 31, api.All - 2, api.All - 1}
	wrongAddrs = append([]int{0, api.All}, far...)
	goodMacs   = []int{1, 2, 255, 256, 32768, 65533, 65534}
	wrongMacs  = append([]int{0, 65535, 65536, 65537, 1<<16 + 256, 1<<32 + 1}, far...)
	wrongOps   = append([]int{0, 3, 4, 255, 256, 257, 258, 65537, 1<<32 + 1, 1<<32 + 2}, far...)
)

// The two kinds of message, of which the tests change one field or another.
var (
	goodAsk  = api.ARPPacket{Op: api.ArpAsk, From: 0x0a000001, FromMac: 0x0102, To: 0x0a0000ff}
	goodTold = api.ARPPacket{Op: api.ArpTold, From: 0x0a000001, FromMac: 0x0102, To: 0x0a0000ff, ToMac: 0xfffe}
)

// ask returns the table's request for an address.
func ask(to int) api.ARPPacket {
	return api.ARPPacket{Op: api.ArpAsk, From: own, FromMac: mac, To: to}
}

// asks returns the table's requests for addresses.
func asks(to ...int) []api.ARPPacket {
	var all []api.ARPPacket
	for _, a := range to {
		all = append(all, ask(a))
	}
	return all
}

// told returns a reply to the table.
func told(from, fromMac int) api.ARPPacket {
	return api.ARPPacket{Op: api.ArpTold, From: from, FromMac: fromMac, To: own, ToMac: mac}
}

// asked returns a request to the table.
func asked(from, fromMac int) api.ARPPacket {
	return api.ARPPacket{Op: api.ArpAsk, From: from, FromMac: fromMac, To: own}
}

// answer returns the table's reply.
func answer(to, toMac int) []api.ARPPacket {
	return []api.ARPPacket{{Op: api.ArpTold, From: own, FromMac: mac, To: to, ToMac: toMac}}
}

// held returns the packets for an address.
func held(to, toMac int, packets ...string) []api.HeldPacket {
	var all []api.HeldPacket
	for _, s := range packets {
		all = append(all, api.HeldPacket{To: to, Mac: toMac, S: s})
	}
	return all
}

// open returns an empty table.
func open(t *testing.T) *arp.Table {
	t.Helper()
	x, e := arp.New(own, mac)
	if x == nil || e != api.OK {
		t.Fatalf("New(%d, %d) = %v, %d", own, mac, x, e)
	}
	return x
}

// send checks what Send answers.
func send(t *testing.T, x *arp.Table, now, to int, s string, want int, said ...api.ARPPacket) {
	t.Helper()
	if m, l, e := x.Send(now, to, s); m != want || !slices.Equal(l, said) || e != api.OK {
		t.Errorf("Send(%d, %d, %.9q) = %d, %v, %d; want %d, %v, OK", now, to, s, m, l, e, want, said)
	}
}

// receive checks what Receive answers.
func receive(t *testing.T, x *arp.Table, now int, a api.ARPPacket, said []api.ARPPacket, packets []api.HeldPacket) {
	t.Helper()
	if l, h := x.Receive(now, a); !slices.Equal(l, said) || !slices.Equal(h, packets) {
		t.Errorf("Receive(%d, %+v) = %v, %v; want %v, %v", now, a, l, h, said, packets)
	}
}

// tick checks what Tick answers.
func tick(t *testing.T, x *arp.Table, now int, said []api.ARPPacket, packets []api.HeldPacket) {
	t.Helper()
	if l, h := x.Tick(now); !slices.Equal(l, said) || !slices.Equal(h, packets) {
		t.Errorf("Tick(%d) = %v, %v; want %v, %v", now, l, h, said, packets)
	}
}

// known checks what Known answers; a MAC of 0 stands for none.
func known(t *testing.T, x *arp.Table, to, want int) {
	t.Helper()
	if m, ok := x.Known(to); m != want || ok != (want != 0) {
		t.Errorf("Known(%d) = %d, %v; want %d, %v", to, m, ok, want, want != 0)
	}
}

// sizes checks what Sizes answers.
func sizes(t *testing.T, x *arp.Table, entries, pending int) {
	t.Helper()
	if n, m := x.Sizes(); n != entries || m != pending {
		t.Errorf("Sizes() = %d, %d; want %d, %d", n, m, entries, pending)
	}
}

// learn makes a resolved entry.
func learn(t *testing.T, x *arp.Table, now, to, toMac int) {
	t.Helper()
	send(t, x, now, to, "x", 0, ask(to))
	receive(t, x, now, told(to, toMac), nil, held(to, toMac, "x"))
}

// encoded returns the encoding of a valid message, worked out without the package.
func encoded(a api.ARPPacket) string {
	return laid(byte(a.Op), uint32(a.From), uint16(a.FromMac), uint32(a.To), uint16(a.ToMac))
}

// laid returns the fields as bytes, valid or not.
func laid(op byte, from uint32, fromMac uint16, to uint32, toMac uint16) string {
	b := binary.BigEndian.AppendUint32([]byte{op}, from)
	b = binary.BigEndian.AppendUint16(b, fromMac)
	b = binary.BigEndian.AppendUint32(b, to)
	return string(binary.BigEndian.AppendUint16(b, toMac))
}

// validMessages are messages at the edges of what is valid.
func validMessages() []api.ARPPacket {
	all := []api.ARPPacket{goodAsk, goodTold, {Op: 1, From: 1, FromMac: 1, To: 1}, {Op: 2, From: 7, FromMac: 7, To: 7, ToMac: 7}}
	for _, from := range goodAddrs {
		for _, to := range goodAddrs {
			for _, m := range goodMacs {
				all = append(all, api.ARPPacket{Op: 1, From: from, FromMac: m, To: to})
				for _, n := range goodMacs {
					all = append(all, api.ARPPacket{Op: 2, From: from, FromMac: m, To: to, ToMac: n})
				}
			}
		}
	}
	return all
}

// wrongMessages are messages of which one or more fields are not valid.
func wrongMessages() []api.ARPPacket {
	all := []api.ARPPacket{{}, {Op: 1}, {Op: 2}, {Op: 1, From: 1}, {Op: 1, From: 1, FromMac: 1}, {Op: 1, FromMac: 1, To: 1}, {Op: 1, From: 1, To: 1}, {From: 1, FromMac: 1, To: 1}, {Op: 2, From: 1, FromMac: 1, To: 1}, {Op: -1, From: -1, FromMac: -1, To: -1, ToMac: -1}}
	for _, good := range []api.ARPPacket{goodAsk, goodTold} {
		for _, n := range wrongOps {
			a := good
			a.Op = n
			all = append(all, a)
		}
		for _, n := range wrongAddrs {
			a, b, c := good, good, good
			a.From, b.To, c.From, c.To = n, n, n, n
			all = append(all, a, b, c)
		}
		for _, n := range wrongMacs {
			a := good
			a.FromMac = n
			all = append(all, a)
		}
	}
	for _, n := range wrongMacs {
		a, b := goodAsk, goodTold
		a.ToMac, b.ToMac = n, n
		if n != 0 {
			all = append(all, a)
		}
		all = append(all, b)
	}
	for _, n := range goodMacs {
		a := goodAsk
		a.ToMac = n
		all = append(all, a)
	}
	return all
}

// TestValid: P5.1, each field at the ends of its range and just outside, and ints far outside.
func TestValid(t *testing.T) {
	for _, a := range validMessages() {
		if !arp.Valid(a) {
			t.Errorf("Valid(%+v) = false", a)
		}
	}
	for _, a := range wrongMessages() {
		if arp.Valid(a) {
			t.Errorf("Valid(%+v) = true", a)
		}
	}
}

// examples are messages with their encodings, written out.
var examples = []struct {
	a api.ARPPacket
	s string
}{
	{goodTold, "\x02\x0a\x00\x00\x01\x01\x02\x0a\x00\x00\xff\xff\xfe"},
	{goodAsk, "\x01\x0a\x00\x00\x01\x01\x02\x0a\x00\x00\xff\x00\x00"},
	{api.ARPPacket{Op: 1, From: 1, FromMac: 65534, To: api.All - 1}, "\x01\x00\x00\x00\x01\xff\xfe\xff\xff\xff\xfe\x00\x00"},
	{api.ARPPacket{Op: 2, From: api.All - 1, FromMac: 1, To: 1, ToMac: 1}, "\x02\xff\xff\xff\xfe\x00\x01\x00\x00\x00\x01\x00\x01"},
}

// TestExamples: P5.1, encodings byte by byte.
func TestExamples(t *testing.T) {
	for _, c := range examples {
		if s, e := arp.Encode(c.a); s != c.s || e != api.OK {
			t.Errorf("Encode(%+v) = %x, %d; want %x, OK", c.a, s, e, c.s)
		}
		if a, e := arp.Decode(c.s); a != c.a || e != api.OK {
			t.Errorf("Decode(%x) = %+v, %d; want %+v, OK", c.s, a, e, c.a)
		}
	}
}

// TestEncode: P5.1, valid messages both ways.
func TestEncode(t *testing.T) {
	for _, a := range validMessages() {
		if s, e := arp.Encode(a); s != encoded(a) || e != api.OK {
			t.Errorf("Encode(%+v) = %x, %d; want %x, OK", a, s, e, encoded(a))
		}
		if b, e := arp.Decode(encoded(a)); b != a || e != api.OK {
			t.Errorf("Decode(%x) = %+v, %d; want %+v, OK", encoded(a), b, e, a)
		}
	}
}

// TestEncodeRefuses: P5.1, messages that are not valid.
func TestEncodeRefuses(t *testing.T) {
	for _, a := range wrongMessages() {
		if s, e := arp.Encode(a); s != "" || e != api.ErrArp {
			t.Errorf("Encode(%+v) = %x, %d; want ErrArp", a, s, e)
		}
	}
}

// refused checks that s is the encoding of no message.
func refused(t *testing.T, s string) {
	t.Helper()
	if a, e := arp.Decode(s); a != (api.ARPPacket{}) || e != api.ErrArp {
		t.Errorf("Decode of %d bytes, first %x = %+v, %d; want ErrArp", len(s), s[:min(len(s), 40)], a, e)
	}
}

// TestDecodeRefusesSizes: P5.1, strings shorter and longer than 13 bytes.
func TestDecodeRefusesSizes(t *testing.T) {
	for _, part := range []string{"\x00", "\x01", "\x02", "\xff"} {
		for _, size := range []int{0, 1, 2, 5, 7, 11, 12, 14, 15, 26, 256 + 13, 65536 + 13, 1 << 24} {
			refused(t, strings.Repeat(part, size))
		}
	}
	for _, c := range examples {
		for at := range c.s {
			refused(t, c.s[:at])
			refused(t, c.s[:at]+c.s[at+1:])
			if at > 0 {
				refused(t, c.s[at:])
			}
		}
		for b := range 256 {
			refused(t, c.s+string([]byte{byte(b)}))
			refused(t, string([]byte{byte(b)})+c.s)
		}
		refused(t, c.s+c.s)
		refused(t, c.s+strings.Repeat("\x00", 256))
		refused(t, c.s+strings.Repeat("\x00", 1<<20))
	}
}

// TestDecodeRefusesFields: P5.1, 13 bytes of fields that are not valid.
func TestDecodeRefusesFields(t *testing.T) {
	for op := range 256 {
		if op != api.ArpAsk {
			refused(t, laid(byte(op), 7, 8, 9, 0))
		}
		if op != api.ArpTold {
			refused(t, laid(byte(op), 7, 8, 9, 1))
		}
		refused(t, laid(byte(op), 7, 8, 9, 65535))
	}
	for _, op := range []byte{api.ArpAsk, api.ArpTold} {
		toMac := uint16(op-1) * 10
		for _, wrong := range []uint32{0, math.MaxUint32} {
			refused(t, laid(op, wrong, 8, 9, toMac))
			refused(t, laid(op, 7, 8, wrong, toMac))
			refused(t, laid(op, wrong, 8, wrong, toMac))
			refused(t, laid(op, 7, uint16(wrong), 9, toMac))
		}
	}
	refused(t, strings.Repeat("\x00", 13))
	refused(t, strings.Repeat("\xff", 13))
}

// TestDecodedIsEncoding: P5.1, of random fields Decode accepts just those that are valid, and they are what it answers.
func TestDecodedIsEncoding(t *testing.T) {
	r := rand.New(rand.NewPCG(5, 1))
	number := func() uint32 {
		if r.IntN(8) > 0 {
			return r.Uint32()
		}
		return uint32(r.IntN(4)) - 2
	}
	accepted := 0
	for range 50000 {
		op, from, fromMac, to, toMac := byte(r.IntN(4)), number(), uint16(number()), number(), uint16(number())
		if r.IntN(3) == 0 {
			toMac = 0
		}
		s := laid(op, from, fromMac, to, toMac)
		if from == 0 || from == math.MaxUint32 || to == 0 || to == math.MaxUint32 || fromMac == 0 || fromMac == 65535 || toMac == 65535 || op == 0 || op == 3 || (op == 1) != (toMac == 0) {
			refused(t, s)
			continue
		}
		accepted++
		want := api.ARPPacket{Op: int(op), From: int(from), FromMac: int(fromMac), To: int(to), ToMac: int(toMac)}
		if a, e := arp.Decode(s); a != want || e != api.OK {
			t.Errorf("Decode(%x) = %+v, %d; want %+v, OK", s, a, e, want)
		}
		if again, e := arp.Encode(want); again != s || e != api.OK {
			t.Errorf("Encode(%+v) = %x, %d; want %x, OK", want, again, e, s)
		}
	}
	if accepted < 5000 || accepted > 30000 {
		t.Errorf("of 50000 strings, %d are encodings", accepted)
	}
}

// TestNew: P5.1, the edges of both arguments; the table is empty and knows its interface.
func TestNew(t *testing.T) {
	for _, a := range goodAddrs {
		for _, m := range goodMacs {
			x, e := arp.New(a, m)
			if x == nil || e != api.OK {
				t.Errorf("New(%d, %d) = %v, %d", a, m, x, e)
				continue
			}
			sizes(t, x, 0, 0)
			send(t, x, 0, 77, "", 0, api.ARPPacket{Op: 1, From: a, FromMac: m, To: 77})
			receive(t, x, 0, api.ARPPacket{Op: 1, From: 77, FromMac: 8, To: a}, []api.ARPPacket{{Op: 2, From: a, FromMac: m, To: 77, ToMac: 8}}, held(77, 8, ""))
		}
	}
	for _, n := range wrongAddrs {
		for _, m := range []int{1, 65534, 0} {
			if x, e := arp.New(n, m); x != nil || e != api.ErrArp {
				t.Errorf("New(%d, %d) = %v, %d; want ErrArp", n, m, x, e)
			}
		}
	}
	for _, n := range wrongMacs {
		for _, a := range []int{1, api.All - 1, 0} {
			if x, e := arp.New(a, n); x != nil || e != api.ErrArp {
				t.Errorf("New(%d, %d) = %v, %d; want ErrArp", a, n, x, e)
			}
		}
	}
}

// TestDocExamples: P5.2, P5.3 and P5.5, the examples of the chapter.
func TestDocExamples(t *testing.T) {
	x, _ := arp.New(10, 1)
	request := func(to int) []api.ARPPacket { return []api.ARPPacket{{Op: 1, From: 10, FromMac: 1, To: to}} }
	send(t, x, 0, 11, "a", 0, request(11)...)
	send(t, x, 1, 11, "b", 0)
	receive(t, x, 2, api.ARPPacket{Op: 2, From: 11, FromMac: 7, To: 10, ToMac: 1}, nil, held(11, 7, "a", "b"))
	receive(t, x, 3, api.ARPPacket{Op: 2, From: 11, FromMac: 8, To: 10, ToMac: 1}, nil, nil)
	known(t, x, 11, 7)
	receive(t, x, 4, api.ARPPacket{Op: 1, From: 10, FromMac: 9, To: 12}, request(10), nil)
}

// TestSend: P5.2, the addresses and packets at the edges.
func TestSend(t *testing.T) {
	for _, to := range goodAddrs {
		for _, s := range []string{"", "a", strings.Repeat("b", 1023), strings.Repeat("b", 1024)} {
			x := open(t)
			send(t, x, 0, to, s, 0, ask(to))
			sizes(t, x, 1, 1)
			known(t, x, to, 0)
			receive(t, x, 0, told(to, 65534), nil, held(to, 65534, s))
			sizes(t, x, 1, 0)
			known(t, x, to, 65534)
			send(t, x, 0, to, s, 65534)
			sizes(t, x, 1, 0)
		}
	}
}

// wrongSends checks that no wrong call of Send is taken.
func wrongSends(t *testing.T, x *arp.Table, now int, addresses ...int) {
	t.Helper()
	wrong := func(to int, s string) {
		t.Helper()
		if m, l, e := x.Send(now, to, s); m != 0 || len(l) > 0 || e != api.ErrArp {
			t.Errorf("Send(%d, %d, %d bytes) = %d, %v, %d; want ErrArp", now, to, len(s), m, l, e)
		}
	}
	for _, to := range append([]int{own}, wrongAddrs...) {
		for _, s := range []string{"", "a", strings.Repeat("b", 1024), strings.Repeat("b", 1025)} {
			wrong(to, s)
		}
	}
	for _, to := range append([]int{1, api.All - 1, 9999}, addresses...) {
		for _, size := range []int{1025, 1026, 2048, 65536, 65536 + 1, 1 << 20} {
			wrong(to, strings.Repeat("b", size))
		}
	}
}

// TestSendRefuses: P5.2, addresses that are not unicast, the table's own, and packets too long; none of them changes anything.
func TestSendRefuses(t *testing.T) {
	x := open(t)
	wrongSends(t, x, 0)
	sizes(t, x, 0, 0)
	learn(t, x, 0, 50, 8)
	learn(t, x, 1, 51, 9)
	wrongSends(t, x, 2, 50, 51)
	sizes(t, x, 2, 0)
	for i := range 13 {
		learn(t, x, 3, 200+i, 7)
	}
	send(t, x, 4, 60, "a", 0, ask(60))
	for i := range 3 {
		send(t, x, 4, 60, strconv.Itoa(i), 0)
	}
	wrongSends(t, x, 5, 50, 60, 61)
	sizes(t, x, 16, 4)
	receive(t, x, 6, told(60, 3), nil, held(60, 3, "a", "0", "1", "2"))
	wrongSends(t, x, 7, 50, 60, 61)
	// The wrong calls for 50 have not used it, so it still goes first.
	send(t, x, 8, 61, "b", 0, ask(61))
	known(t, x, 50, 0)
	known(t, x, 51, 9)
	sizes(t, x, 16, 1)
}

// TestPendingPackets: P5.2, the fifth pending packet and those behind it drop the oldest.
func TestPendingPackets(t *testing.T) {
	for count := 1; count <= 14; count++ {
		x := open(t)
		var all []string
		for i := range count {
			s := "packet " + strconv.Itoa(i)
			all = append(all, s)
			if i == 0 {
				send(t, x, i, 11, s, 0, ask(11))
			} else {
				send(t, x, i, 11, s, 0)
			}
			send(t, x, 0, 12+i, "other", 0, ask(12+i))
			sizes(t, x, i+2, min(i+1, 4)+i+1)
		}
		receive(t, x, 20, told(11, 7), nil, held(11, 7, all[max(0, count-4):]...))
		sizes(t, x, count+1, count)
	}
	// The same packet again and again is held as often.
	x := open(t)
	send(t, x, 0, 11, "a", 0, ask(11))
	for range 3 {
		send(t, x, 0, 11, "a", 0)
	}
	sizes(t, x, 1, 4)
	tick(t, x, 10, asks(11), nil)
	tick(t, x, 20, asks(11), nil)
	tick(t, x, 30, nil, held(11, 0, "a", "a", "a", "a"))
}

// TestSendToIncompleteIsNoRequest: P5.2, a further packet changes neither the number of requests nor their times.
func TestSendToIncompleteIsNoRequest(t *testing.T) {
	x := open(t)
	send(t, x, 0, 11, "a", 0, ask(11))
	send(t, x, 9, 11, "b", 0)
	tick(t, x, 10, asks(11), nil)
	send(t, x, 19, 11, "c", 0)
	tick(t, x, 20, asks(11), nil)
	send(t, x, 29, 11, "d", 0)
	tick(t, x, 30, nil, held(11, 0, "a", "b", "c", "d"))
	send(t, x, 30, 11, "e", 0, ask(11))
	tick(t, x, 40, asks(11), nil)
}

// fill makes incomplete entries, each with its first request at a time of its own.
func fill(t *testing.T, x *arp.Table, from int, times ...int) {
	t.Helper()
	for i, now := range times {
		send(t, x, now, from+i, "p", 0, ask(from+i))
	}
}

// gone checks that a request for a new address has evicted just the one entry.
func gone(t *testing.T, x *arp.Table, now, to, victim int, incomplete, done []int) {
	t.Helper()
	send(t, x, now, to, "new", 0, ask(to))
	for _, a := range done {
		if m, ok := x.Known(a); ok == (a == victim) || ok != (m == 9) {
			t.Errorf("Known(%d) = %d, %v, when %d was to be evicted", a, m, ok, victim)
		}
	}
	for _, a := range incomplete {
		packets := held(a, 3, "p")
		if a == victim {
			packets = nil
		}
		receive(t, x, now, told(a, 3), nil, packets)
	}
}

// TestEvictIncomplete: P5.2, the seventeenth entry evicts the incomplete entry with the oldest first request; of several, the smallest address.
func TestEvictIncomplete(t *testing.T) {
	for i, c := range []struct {
		times  []int
		victim int
	}{
		{[]int{0, 1, 2, 3, 4, 5, 6, 7, 8, 9, 10, 11, 12, 13, 14, 15}, 100},
		{[]int{15, 14, 13, 12, 11, 10, 9, 8, 7, 6, 5, 4, 3, 2, 1, 0}, 115},
		{[]int{5, 5, 5, 5, 5, 4, 5, 5, 5, 5, 5, 5, 5, 5, 5, 5}, 105},
		{[]int{5, 5, 5, 5, 5, 4, 5, 5, 4, 5, 5, 5, 4, 5, 5, 4}, 105},
		{[]int{7, 7, 7, 7, 7, 7, 7, 7, 7, 7, 7, 7, 7, 7, 7, 7}, 100},
		{[]int{1, 0, 0, 0, 0, 0, 0, 0, 0, 0, 0, 0, 0, 0, 0, 0}, 101},
		{[]int{1, 0, -1, -2, -3, -4, -5, -6, -7, -8, -7, -6, -5, -4, -3, -2}, 109},
		{[]int{0, math.MaxInt, math.MinInt + 1, 1, -1, math.MinInt, math.MaxInt, math.MinInt, 2, 3, 4, 5, 6, 7, 8, 9}, 105},
		{[]int{math.MaxInt, math.MaxInt, math.MaxInt - 1, math.MaxInt, math.MaxInt, math.MaxInt, math.MaxInt, math.MaxInt, math.MaxInt, math.MaxInt, math.MaxInt, math.MaxInt, math.MaxInt, math.MaxInt, math.MaxInt, math.MaxInt}, 102},
	} {
		for _, now := range []int{0, 3, 20, math.MaxInt, math.MinInt} {
			for _, to := range []int{50, 200} {
				x := open(t)
				fill(t, x, 100, c.times...)
				sizes(t, x, 16, 16)
				send(t, x, now, to, "q", 0, ask(to))
				sizes(t, x, 16, 16)
				for a := 100; a < 116; a++ {
					packets := held(a, 3, "p")
					if a == c.victim {
						packets = nil
					}
					if l, h := x.Receive(now, told(a, 3)); len(l) > 0 || !slices.Equal(h, packets) {
						t.Errorf("case %d, now %d: after the eviction, the reply of %d gave %v, %v; want %v", i, now, a, l, h, packets)
					}
				}
				receive(t, x, now, told(to, 4), nil, held(to, 4, "q"))
				sizes(t, x, 16, 0)
			}
		}
	}
}

// TestEvictByFirstRequest: P5.2, later requests and packets do not make an incomplete entry younger.
func TestEvictByFirstRequest(t *testing.T) {
	x := open(t)
	fill(t, x, 100, 3, 4, 2, 3)
	tick(t, x, 12, asks(102), nil)
	send(t, x, 12, 102, "p", 0)
	var rest []int
	for range 12 {
		rest = append(rest, 5)
	}
	fill(t, x, 104, rest...)
	send(t, x, 13, 50, "q", 0, ask(50))
	receive(t, x, 13, told(102, 3), nil, nil)
	send(t, x, 14, 51, "q", 0, ask(51))
	receive(t, x, 14, told(100, 3), nil, nil)
	receive(t, x, 14, told(103, 3), nil, held(103, 3, "p"))
	sizes(t, x, 16, 15)
	// An address that was evicted is asked for anew, and counts as new.
	send(t, x, 15, 102, "r", 0, ask(102))
	receive(t, x, 15, told(101, 3), nil, nil)
	receive(t, x, 15, told(102, 3), nil, held(102, 3, "r"))
}

// TestEvictIncompleteFirst: P5.2, as long as there is an incomplete entry no resolved one is evicted, however old it is.
func TestEvictIncompleteFirst(t *testing.T) {
	for only := range 16 {
		x := open(t)
		var done []int
		for i := range 16 {
			if i == only {
				fill(t, x, 100+i, 90)
				continue
			}
			learn(t, x, 0, 100+i, 9)
			done = append(done, 100+i)
		}
		gone(t, x, 91, 50, 100+only, []int{100 + only}, done)
		// The new entry is the incomplete one now.
		gone(t, x, 92, 200, 50, []int{50}, done)
		receive(t, x, 93, told(200, 3), nil, held(200, 3, "new"))
	}
}

// TestEvictResolved: P5.2, without incomplete entries the resolved one with the oldest last use goes; of several, the smallest address.
func TestEvictResolved(t *testing.T) {
	for _, c := range []struct {
		uses   []int
		victim int
	}{
		{[]int{0, 1, 2, 3, 4, 5, 6, 7, 8, 9, 10, 11, 12, 13, 14, 15}, 100},
		{[]int{15, 14, 13, 12, 11, 10, 9, 8, 7, 6, 5, 4, 3, 2, 1, 0}, 115},
		{[]int{5, 5, 5, 5, 5, 4, 5, 5, 4, 5, 5, 5, 4, 5, 5, 4}, 105},
		{[]int{7, 7, 7, 7, 7, 7, 7, 7, 7, 7, 7, 7, 7, 7, 7, 7}, 100},
		{[]int{1, 0, 0, 0, 0, 0, 0, 0, 0, 0, 0, 0, 0, 0, 0, 0}, 101},
		{[]int{0, math.MaxInt, math.MinInt + 1, 1, -1, math.MinInt, math.MaxInt, math.MinInt, 2, 3, 4, 5, 6, 7, 8, 9}, 105},
	} {
		for _, order := range []int{1, 15} {
			for _, sent := range []bool{false, true} {
				x := open(t)
				var done []int
				for i := range 16 {
					at := i * order % 16
					done = append(done, 100+at)
					if !sent {
						learn(t, x, c.uses[at], 100+at, 9)
						continue
					}
					learn(t, x, -at, 100+at, 9)
				}
				for i := range 16 {
					if sent {
						send(t, x, 1000, 100+i, "u", 9)
						send(t, x, c.uses[i], 100+i, "u", 9)
					}
				}
				gone(t, x, 50, 200, c.victim, nil, done)
				sizes(t, x, 16, 1)
			}
		}
	}
}

// TestNoUse: P5.2 and P5.3, only Send uses a resolved entry: neither messages nor Known nor Tick do.
func TestNoUse(t *testing.T) {
	x := open(t)
	var done []int
	for i := range 16 {
		learn(t, x, i, 100+i, 9)
		done = append(done, 100+i)
	}
	receive(t, x, 30, told(100, 9), nil, nil)
	receive(t, x, 30, told(100, 8), nil, nil)
	receive(t, x, 30, asked(100, 7), answer(100, 7), nil)
	known(t, x, 100, 9)
	tick(t, x, 30, nil, nil)
	gone(t, x, 31, 50, 100, nil, done)
}

// TestReceiveReply: P5.3, a reply resolves an incomplete entry, also if its ToMac is another one.
func TestReceiveReply(t *testing.T) {
	for _, m := range goodMacs {
		for _, n := range goodMacs {
			x := open(t)
			send(t, x, 0, 11, "a", 0, ask(11))
			send(t, x, 0, 12, "b", 0, ask(12))
			send(t, x, 0, 11, "c", 0)
			receive(t, x, 1, api.ARPPacket{Op: 2, From: 11, FromMac: m, To: own, ToMac: n}, nil, held(11, m, "a", "c"))
			known(t, x, 11, m)
			known(t, x, 12, 0)
			sizes(t, x, 2, 1)
			send(t, x, 2, 11, "d", m)
		}
	}
}

// TestReceiveRequest: P5.3, a request for the table's own address is answered, and resolves an incomplete entry, but makes no entry.
func TestReceiveRequest(t *testing.T) {
	for _, from := range goodAddrs {
		for _, m := range goodMacs {
			x := open(t)
			receive(t, x, 0, asked(from, m), answer(from, m), nil)
			sizes(t, x, 0, 0)
			known(t, x, from, 0)
			send(t, x, 1, from, "a", 0, ask(from))
			receive(t, x, 2, asked(from, m), answer(from, m), held(from, m, "a"))
			receive(t, x, 3, asked(from, 77), answer(from, 77), nil)
			known(t, x, from, m)
			sizes(t, x, 1, 0)
		}
	}
}

// TestReceiveForOthers: P5.3, messages for other addresses change nothing.
func TestReceiveForOthers(t *testing.T) {
	x := open(t)
	send(t, x, 0, 11, "a", 0, ask(11))
	learn(t, x, 0, 12, 7)
	for _, from := range []int{11, 12, 13} {
		for _, to := range []int{1, 9, 11, 12, 13, api.All - 1} {
			receive(t, x, 1, api.ARPPacket{Op: 1, From: from, FromMac: 8, To: to}, nil, nil)
			receive(t, x, 1, api.ARPPacket{Op: 2, From: from, FromMac: 8, To: to, ToMac: mac}, nil, nil)
		}
	}
	known(t, x, 11, 0)
	known(t, x, 12, 7)
	sizes(t, x, 2, 1)
	receive(t, x, 2, told(11, 9), nil, held(11, 9, "a"))
}

// TestReceiveWrong: P5.3, messages that are not valid change nothing, and announce nothing.
func TestReceiveWrong(t *testing.T) {
	x := open(t)
	send(t, x, 0, 11, "a", 0, ask(11))
	wrong := wrongMessages()
	for _, from := range []int{own, 11} {
		for _, op := range wrongOps {
			wrong = append(wrong, api.ARPPacket{Op: op, From: from, FromMac: 9, To: own}, api.ARPPacket{Op: op, From: from, FromMac: 9, To: own, ToMac: mac})
		}
		for _, m := range wrongMacs {
			wrong = append(wrong, asked(from, m), told(from, m), api.ARPPacket{Op: 2, From: from, FromMac: 9, To: own, ToMac: m})
			if m != 0 {
				wrong = append(wrong, api.ARPPacket{Op: 1, From: from, FromMac: 9, To: own, ToMac: m})
			}
		}
		for _, to := range wrongAddrs {
			wrong = append(wrong, api.ARPPacket{Op: 1, From: from, FromMac: 9, To: to}, api.ARPPacket{Op: 2, From: from, FromMac: 9, To: to, ToMac: mac})
		}
		wrong = append(wrong, api.ARPPacket{Op: 1, From: from, FromMac: 9, To: own, ToMac: mac}, api.ARPPacket{Op: 2, From: from, FromMac: 9, To: own})
	}
	for _, from := range wrongAddrs {
		wrong = append(wrong, asked(from, 9), told(from, 9))
	}
	for _, a := range wrong {
		receive(t, x, 1, a, nil, nil)
	}
	sizes(t, x, 1, 1)
	known(t, x, 11, 0)
	receive(t, x, 1, told(own, 9), asks(own), nil)
	receive(t, x, 2, told(11, 9), nil, held(11, 9, "a"))
}

// TestUnsolicited: P5.3, messages that answer no request make and change no entry, also not after the entry is gone.
func TestUnsolicited(t *testing.T) {
	x := open(t)
	receive(t, x, 0, told(11, 7), nil, nil)
	receive(t, x, 0, asked(11, 7), answer(11, 7), nil)
	known(t, x, 11, 0)
	sizes(t, x, 0, 0)
	send(t, x, 0, 11, "a", 0, ask(11))
	receive(t, x, 1, told(11, 7), nil, held(11, 7, "a"))
	for _, m := range []int{1, 8, 65534} {
		receive(t, x, 599, told(11, m), nil, nil)
		receive(t, x, 599, asked(11, m), answer(11, m), nil)
		known(t, x, 11, 7)
	}
	// Had one of these messages renewed it, the entry would be still there.
	tick(t, x, 601, nil, nil)
	sizes(t, x, 0, 0)
	receive(t, x, 601, told(11, 7), nil, nil)
	sizes(t, x, 0, 0)
	send(t, x, 602, 11, "b", 0, ask(11))
	tick(t, x, 612, asks(11), nil)
	tick(t, x, 622, asks(11), nil)
	tick(t, x, 632, nil, held(11, 0, "b"))
	receive(t, x, 633, told(11, 7), nil, nil)
	known(t, x, 11, 0)
	sizes(t, x, 0, 0)
}

// TestDefence: P5.3, another MAC under the table's own address is answered with an announcement, not twice within 10 ticks.
func TestDefence(t *testing.T) {
	x := open(t)
	for _, c := range []struct {
		now, mac  int
		announced bool
	}{
		{100, mac, false}, {100, 9, true}, {100, 9, false}, {101, 8, false}, {109, 9, false}, {109, mac, false}, {110, mac, false},
		{110, 1, true}, {119, 9, false}, {121, 65534, true}, {120, 9, false}, {130, 9, false}, {131, 9, true},
		{50, 9, false}, {-1000, 9, false}, {math.MinInt, 9, false}, {140, 9, false}, {141, 9, true}, {152, 9, true},
		{math.MaxInt, 9, true}, {math.MinInt, 9, false}, {-1, 9, false}, {0, 9, false}, {math.MaxInt - 10, 9, false}, {math.MaxInt, 9, false},
	} {
		for _, a := range []api.ARPPacket{told(own, c.mac), asked(own, c.mac), {Op: 1, From: own, FromMac: c.mac, To: 77}, {Op: 2, From: own, FromMac: c.mac, To: 77, ToMac: 8}} {
			y := open(t)
			if c.mac != mac {
				receive(t, y, c.now, a, asks(own), nil)
			}
			receive(t, y, c.now, a, nil, nil)
		}
		var want []api.ARPPacket
		if c.announced {
			want = asks(own)
		}
		receive(t, x, c.now, told(own, c.mac), want, nil)
	}
	sizes(t, x, 0, 0)
	known(t, x, own, 0)
}

// TestDefenceTimes: P5.3, announcements 9, 10 and 11 ticks apart from any time on, the least int among them.
func TestDefenceTimes(t *testing.T) {
	for _, start := range []int{0, 1, -1, -5, -10, -11, 5, 600, 1 << 62, -1 << 62, math.MinInt, math.MinInt + 1, math.MaxInt - 11} {
		for _, c := range []struct {
			after int
			want  []api.ARPPacket
		}{{0, nil}, {1, nil}, {9, nil}, {10, asks(own)}, {11, asks(own)}} {
			x := open(t)
			receive(t, x, start, told(own, 9), asks(own), nil)
			receive(t, x, start+c.after, told(own, 9), c.want, nil)
		}
	}
	// The whole range of ints apart, both ways.
	x := open(t)
	receive(t, x, math.MinInt, told(own, 9), asks(own), nil)
	receive(t, x, math.MaxInt, told(own, 9), asks(own), nil)
	receive(t, x, math.MinInt, told(own, 9), nil, nil)
	for _, now := range []int{-1, 0, 1} {
		y := open(t)
		receive(t, y, math.MinInt, told(own, 9), asks(own), nil)
		receive(t, y, now, told(own, 9), asks(own), nil)
		z := open(t)
		receive(t, z, now, told(own, 9), asks(own), nil)
		receive(t, z, math.MinInt, told(own, 9), nil, nil)
		receive(t, z, math.MaxInt, told(own, 9), asks(own), nil)
	}
}

// TestDefenceLeavesEntries: P5.3, a claim of the table's own address is no answer and no request of another.
func TestDefenceLeavesEntries(t *testing.T) {
	x := open(t)
	send(t, x, 0, 11, "a", 0, ask(11))
	receive(t, x, 0, asked(own, 9), asks(own), nil)
	receive(t, x, 20, api.ARPPacket{Op: 2, From: own, FromMac: 9, To: 11, ToMac: 8}, asks(own), nil)
	receive(t, x, 40, api.ARPPacket{Op: 1, From: own, FromMac: mac, To: 11}, nil, nil)
	receive(t, x, 40, asked(own, mac), nil, nil)
	sizes(t, x, 1, 1)
	known(t, x, own, 0)
	// Another host may have the table's MAC: only the address tells whom it is from.
	receive(t, x, 41, asked(11, mac), answer(11, mac), held(11, mac, "a"))
	// An announcement is not a request of an entry, and a request is no announcement.
	send(t, x, 50, 12, "b", 0, ask(12))
	receive(t, x, 50, told(own, 9), asks(own), nil)
	tick(t, x, 59, nil, nil)
	tick(t, x, 60, asks(12), nil)
}

// TestRequestsAgain: P5.4, requests 9, 10 and 11 ticks after the last, the third one, and what follows it.
func TestRequestsAgain(t *testing.T) {
	for _, start := range []int{0, 1, -1, -7, -10, 600, 1 << 62, -1 << 62, math.MinInt, math.MinInt + 1, math.MaxInt - 60} {
		x := open(t)
		send(t, x, start, 11, "a", 0, ask(11))
		send(t, x, start+1, 11, "b", 0)
		tick(t, x, start, nil, nil)
		tick(t, x, start+9, nil, nil)
		tick(t, x, start+10, asks(11), nil)
		tick(t, x, start+10, nil, nil)
		tick(t, x, start+11, nil, nil)
		tick(t, x, start+19, nil, nil)
		// Late: the next one is due 10 ticks after this one.
		tick(t, x, start+21, asks(11), nil)
		tick(t, x, start+30, nil, nil)
		sizes(t, x, 1, 2)
		tick(t, x, start+31, nil, held(11, 0, "a", "b"))
		sizes(t, x, 0, 0)
		tick(t, x, start+32, nil, nil)
		tick(t, x, start+41, nil, nil)
		send(t, x, start+42, 11, "c", 0, ask(11))
		tick(t, x, start+51, nil, nil)
		tick(t, x, start+52, asks(11), nil)
		receive(t, x, start+53, told(11, 7), nil, held(11, 7, "c"))
		tick(t, x, start+60, nil, nil)
	}
}

// TestRequestsBackInTime: P5.4, an age may be negative, or greater than any int.
func TestRequestsBackInTime(t *testing.T) {
	x := open(t)
	send(t, x, 100, 11, "a", 0, ask(11))
	for _, now := range []int{99, 90, 89, 0, -100, math.MinInt, math.MinInt + 1, 109} {
		tick(t, x, now, nil, nil)
	}
	tick(t, x, 110, asks(11), nil)
	tick(t, x, math.MinInt, nil, nil)
	tick(t, x, math.MaxInt, asks(11), nil)
	tick(t, x, 0, nil, nil)
	tick(t, x, math.MinInt, nil, nil)
	tick(t, x, math.MaxInt, nil, nil)
	sizes(t, x, 1, 1)
	y := open(t)
	send(t, y, math.MinInt, 11, "a", 0, ask(11))
	tick(t, y, math.MinInt+9, nil, nil)
	tick(t, y, 0, asks(11), nil)
	tick(t, y, -1, nil, nil)
	tick(t, y, math.MaxInt, asks(11), nil)
	tick(t, y, -2, nil, nil)
	sizes(t, y, 1, 1)
}

// TestTickOrder: P5.4, requests and packets come in order of the addresses, whatever order they were sent in.
func TestTickOrder(t *testing.T) {
	x := open(t)
	addresses := []int{api.All - 1, 300, 7, 65536, 1 << 31, 11, 9, 1, 256, 12, 1<<31 - 1, 255, 2, 1 << 24, 65535, 8}
	for _, a := range addresses {
		send(t, x, 0, a, "first "+strconv.Itoa(a), 0, ask(a))
		send(t, x, 0, a, "last", 0)
	}
	sizes(t, x, 16, 32)
	slices.Sort(addresses)
	tick(t, x, 10, asks(addresses...), nil)
	tick(t, x, 20, asks(addresses...), nil)
	var packets []api.HeldPacket
	for _, a := range addresses {
		packets = append(packets, held(a, 0, "first "+strconv.Itoa(a), "last")...)
	}
	tick(t, x, 30, nil, packets)
	sizes(t, x, 0, 0)
}

// TestTickOfEach: P5.4, every entry has times of its own: in one tick some ask again, some are given up, some expire, and some stay.
func TestTickOfEach(t *testing.T) {
	x := open(t)
	learn(t, x, 0, 14, 7)
	learn(t, x, 20, 12, 8)
	send(t, x, 570, 15, "f", 0, ask(15))
	send(t, x, 570, 11, "a", 0, ask(11))
	tick(t, x, 580, asks(11, 15), nil)
	tick(t, x, 590, asks(11, 15), nil)
	send(t, x, 590, 16, "g", 0, ask(16))
	send(t, x, 590, 13, "b", 0, ask(13))
	send(t, x, 595, 17, "h", 0, ask(17))
	send(t, x, 595, 9, "i", 0, ask(9))
	tick(t, x, 600, asks(13, 16), append(held(11, 0, "a"), held(15, 0, "f")...))
	sizes(t, x, 5, 4)
	known(t, x, 14, 0)
	known(t, x, 12, 8)
	tick(t, x, 605, asks(9, 17), nil)
	tick(t, x, 610, asks(13, 16), nil)
	tick(t, x, 620, asks(9, 17), append(held(13, 0, "b"), held(16, 0, "g")...))
	sizes(t, x, 2, 2)
}

// TestExpiry: P5.4, a resolved entry 599, 600 and 601 ticks after it was resolved, however it was used.
func TestExpiry(t *testing.T) {
	for _, start := range []int{0, 1, -1, -300, -600, 1 << 62, -1 << 62, math.MinInt, math.MaxInt - 705} {
		for _, after := range []int{600, 601, 700} {
			x := open(t)
			send(t, x, start, 11, "a", 0, ask(11))
			at := start + 5
			receive(t, x, at, told(11, 7), nil, held(11, 7, "a"))
			for _, more := range []int{0, 9, 10, 30, 598, 599} {
				tick(t, x, at+more, nil, nil)
				known(t, x, 11, 7)
				send(t, x, at+more, 11, "b", 7)
			}
			// No tick has come yet, so the entry still serves.
			send(t, x, at+after, 11, "c", 7)
			tick(t, x, at+after, nil, nil)
			known(t, x, 11, 0)
			sizes(t, x, 0, 0)
			send(t, x, at+after, 11, "d", 0, ask(11))
		}
	}
}

// TestExpiryBackInTime: P5.4, a resolved entry whose age is negative, or greater than any int.
func TestExpiryBackInTime(t *testing.T) {
	for _, c := range []struct {
		since, now int
		stays      bool
	}{
		{1000, 999, true}, {1000, 400, true}, {1000, 0, true}, {0, -600, true}, {0, math.MinInt, true}, {math.MaxInt, math.MinInt, true}, {math.MaxInt, 0, true}, {math.MaxInt, -1, true}, {1, math.MinInt, true}, {math.MaxInt, math.MaxInt, true},
		{math.MinInt, math.MinInt, true}, {math.MinInt, math.MinInt + 599, true}, {math.MinInt, math.MinInt + 600, false}, {math.MinInt, -1, false}, {math.MinInt, 0, false}, {math.MinInt, math.MaxInt, false}, {-1, math.MaxInt, false}, {math.MaxInt - 599, math.MaxInt, true}, {math.MaxInt - 600, math.MaxInt, false},
	} {
		x := open(t)
		learn(t, x, c.since, 11, 7)
		tick(t, x, c.now, nil, nil)
		if _, ok := x.Known(11); ok != c.stays {
			t.Errorf("resolved at %d, it is known at %d: %v", c.since, c.now, ok)
		}
	}
}

// TestKnown: P5.5, resolved addresses alone are known, and no int is too odd to ask for.
func TestKnown(t *testing.T) {
	x := open(t)
	send(t, x, 0, 11, "a", 0, ask(11))
	learn(t, x, 0, 1, 65534)
	learn(t, x, 0, api.All-1, 1)
	for _, a := range append([]int{own, 2, 11, 12, api.All - 2}, wrongAddrs...) {
		known(t, x, a, 0)
	}
	known(t, x, 1, 65534)
	known(t, x, api.All-1, 1)
	sizes(t, x, 3, 1)
}

// TestNil: P5.5, every method of a nil table.
func TestNil(t *testing.T) {
	var x *arp.Table
	for _, to := range append([]int{own, 11}, wrongAddrs...) {
		for _, s := range []string{"", "a", strings.Repeat("b", 1025)} {
			if m, l, e := x.Send(0, to, s); m != 0 || len(l) > 0 || e != api.ErrNil {
				t.Errorf("Send(0, %d, %d bytes) of nil = %d, %v, %d; want ErrNil", to, len(s), m, l, e)
			}
		}
		known(t, x, to, 0)
	}
	for _, a := range append(validMessages(), wrongMessages()...) {
		receive(t, x, 0, a, nil, nil)
	}
	for _, now := range []int{0, 9999, math.MinInt, math.MaxInt} {
		tick(t, x, now, nil, nil)
	}
	sizes(t, x, 0, 0)
}

// TestTablesApart: each table has its own interface, entries and announcements.
func TestTablesApart(t *testing.T) {
	x := open(t)
	y := open(t)
	learn(t, x, 0, 11, 7)
	sizes(t, y, 0, 0)
	send(t, y, 0, 11, "a", 0, ask(11))
	known(t, x, 11, 7)
	receive(t, x, 0, told(own, 9), asks(own), nil)
	receive(t, y, 0, told(own, 9), asks(own), nil)
	tick(t, x, 600, nil, nil)
	sizes(t, x, 0, 0)
	receive(t, y, 600, told(11, 8), nil, held(11, 8, "a"))
}

// TestResultsAreNew: what a caller does to an answer changes no table and no other answer.
func TestResultsAreNew(t *testing.T) {
	x := open(t)
	spoil := func(l []api.ARPPacket, h []api.HeldPacket) {
		for i := range l[:cap(l)] {
			l[:cap(l)][i] = api.ARPPacket{Op: -1}
		}
		for i := range h[:cap(h)] {
			h[:cap(h)][i] = api.HeldPacket{S: "spoilt"}
		}
	}
	for round := range 3 {
		now := round * 1000
		for _, to := range []int{11, 12} {
			_, l, _ := x.Send(now, to, "a")
			spoil(l, nil)
			send(t, x, now, to, "b", 0)
		}
		spoil(x.Tick(now + 10))
		spoil(x.Receive(now+11, told(own, 9)))
		spoil(x.Receive(now+12, asked(11, 9)))
		known(t, x, 11, 9)
		tick(t, x, now+20, asks(12), nil)
		l, h := x.Tick(now + 30)
		if len(l) > 0 || !slices.Equal(h, held(12, 0, "a", "b")) {
			t.Errorf("Tick = %v, %v", l, h)
		}
		spoil(l, h)
		tick(t, x, now+999, nil, nil)
		sizes(t, x, 0, 0)
	}
}
