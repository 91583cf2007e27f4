package icmp_test

import (
	"math"
	"strings"
	"testing"

	"stagepost/api"
	"stagepost/icmp"
	"stagepost/ip"
)

// good is a valid datagram, of which the tests change one field or another.
var good = api.Packet{From: 0x01020304, To: 0x05060708, Proto: 9, TTL: 10, ID: 0x0b0c, S: "hello"}

// goodBytes is its encoding.
const goodBytes = "\x04\x01\x02\x03\x04\x05\x06\x07\x08\x09\x0a\x0b\x0c\x00\x00\x00\x00\x05\xd1\xd6hello"

// changed returns good with some fields changed.
func changed(change func(p *api.Packet)) api.Packet {
	p := good
	change(&p)
	return p
}

// causes are the kinds, codes and N of valid error messages.
func causes() []api.ICMPMessage {
	var all []api.ICMPMessage
	for code := 1; code <= 4; code++ {
		all = append(all, api.ICMPMessage{Kind: api.MGone, Code: code})
	}
	for _, n := range []int{68, 69, 576, 1023, 1024} {
		all = append(all, api.ICMPMessage{Kind: api.MBig, N: n})
	}
	return append(all, api.ICMPMessage{Kind: api.MLate, Code: 1}, api.ICMPMessage{Kind: api.MLate, Code: 2})
}

// built checks that NewError answers a message that quotes those bytes.
func built(t *testing.T, cause api.ICMPMessage, p api.Packet, quote string) {
	t.Helper()
	want := cause
	want.S = quote
	if got, ok := icmp.NewError(cause.Kind, cause.Code, cause.N, p); got != want || !ok {
		t.Errorf("NewError(%d, %d, %d, %+v, %d bytes) = %+v, %v; want %+v", cause.Kind, cause.Code, cause.N, shown(p), len(p.S), got, ok, want)
	}
}

// none checks that NewError answers no message.
func none(t *testing.T, cause api.ICMPMessage, p api.Packet) {
	t.Helper()
	if got, ok := icmp.NewError(cause.Kind, cause.Code, cause.N, p); got != (api.ICMPMessage{}) || ok {
		t.Errorf("NewError(%d, %d, %d, %+v, %d bytes) = %+v, %v; want none", cause.Kind, cause.Code, cause.N, shown(p), len(p.S), got, ok)
	}
}

// quotes checks that Quoted answers p.
func quotes(t *testing.T, m api.ICMPMessage, p api.Packet) {
	t.Helper()
	if got, ok := icmp.Quoted(m); got != p || !ok {
		t.Errorf("Quoted(%+v) = %+v, %v; want %+v", m, got, ok, p)
	}
}

// noQuote checks that Quoted answers no datagram.
func noQuote(t *testing.T, m api.ICMPMessage) {
	t.Helper()
	if got, ok := icmp.Quoted(m); got != (api.Packet{}) || ok {
		t.Errorf("Quoted(%+v, %d bytes) = %+v, %v; want none", told(m), len(m.S), got, ok)
	}
}

// shown shows a datagram without the whole of its payload.
func shown(p api.Packet) api.Packet {
	p.S = p.S[:min(len(p.S), 12)]
	return p
}

// head returns the first bytes of the encoding of p, up to as many as a message quotes.
func head(t *testing.T, p api.Packet) string {
	t.Helper()
	s, e := ip.Encode(p)
	if e != api.OK {
		t.Fatalf("%+v, %d bytes, is not valid", shown(p), len(p.S))
	}
	if len(s) > 28 {
		s = s[:28]
	}
	return s
}

// cut returns what Quoted is to answer of a message about p.
func cut(p api.Packet) api.Packet {
	p.S = p.S[:min(len(p.S), 8)]
	return p
}

// TestNewError: P8.2, each error kind about an ordinary datagram, with the quotation written out.
func TestNewError(t *testing.T) {
	for _, c := range causes() {
		built(t, c, good, goodBytes)
		p := changed(func(p *api.Packet) { p.S = "hello, world" })
		built(t, c, p, "\x04\x01\x02\x03\x04\x05\x06\x07\x08\x09\x0a\x0b\x0c\x00\x00\x00\x00\x0c\xd1\xcfhello, w")
		m, _ := icmp.NewError(c.Kind, c.Code, c.N, p)
		quotes(t, m, cut(p))
		s, e := icmp.Encode(m)
		if e != api.OK || len(s) != 36 || !icmp.Valid(m) {
			t.Errorf("Encode(%+v) = %x, %d", m, s, e)
		}
		decodes(t, s, m)
	}
}

// TestNewErrorSizes: P8.2, datagrams of fewer than 28 bytes, just 28, and more.
func TestNewErrorSizes(t *testing.T) {
	for _, size := range []int{0, 1, 2, 6, 7, 8, 9, 10, 20, 28, 29, 500, 501, 1004, 1024, 3999, 4000} {
		p := changed(func(p *api.Packet) { p.S = long[:size] })
		for _, c := range causes() {
			quote := head(t, p)
			if len(quote) != min(20+size, 28) {
				t.Fatalf("%d bytes are quoted of %d", len(quote), size)
			}
			built(t, c, p, quote)
			c.S = quote
			quotes(t, c, cut(p))
		}
	}
}

// TestNewErrorPackets: P8.2, datagrams at the edges of what is valid; the first fragment of one; one with DF.
func TestNewErrorPackets(t *testing.T) {
	for _, p := range []api.Packet{
		{From: 1, To: 1, TTL: 1},
		{From: 1, To: api.All - 1, TTL: 255, ID: 65535, Proto: 255},
		{From: api.All - 1, To: 1, TTL: 32, DF: true, S: long[:4000]},
		{From: 1, To: 2, Proto: api.PUdp, TTL: 9, MF: true, S: long[:8]},
		{From: 1, To: 2, Proto: api.PTcp, TTL: 9, MF: true, S: long[:4000]},
		{From: 1, To: 2, Proto: api.PIcmp, TTL: 9, MF: true, S: "\x01\x00345678"},
		{From: 2, To: 2, TTL: 9, S: "\x00"},
	} {
		for _, c := range causes() {
			built(t, c, p, head(t, p))
			c.S = head(t, p)
			quotes(t, c, cut(p))
		}
	}
}

// TestNewErrorRefusesPackets: P8.2 and P8.4, datagrams that are not valid, that are no first fragment, or that are for all.
func TestNewErrorRefusesPackets(t *testing.T) {
	wrong := []api.Packet{{}, {S: "a"}, {From: 1, To: 1}, {From: 1, TTL: 1}, {To: 1, TTL: 1}}
	for _, n := range []int{math.MinInt, -1, 0, 4294967295, 4294967296, 1<<32 + 1, math.MaxInt} {
		wrong = append(wrong, changed(func(p *api.Packet) { p.From = n }), changed(func(p *api.Packet) { p.To = n }))
	}
	for _, n := range []int{math.MinInt, -1, 256, 257, 65536, math.MaxInt} {
		wrong = append(wrong, changed(func(p *api.Packet) { p.Proto = n }), changed(func(p *api.Packet) { p.TTL = n }))
	}
	for _, n := range []int{math.MinInt, -8, -1, 1, 4, 7, 4000, 4008, 1 << 32, math.MaxInt - 7} {
		wrong = append(wrong, changed(func(p *api.Packet) { p.Off = n }), changed(func(p *api.Packet) { p.Off, p.S, p.MF = n, long[:8], true }))
	}
	// These are valid, but not the first fragments.
	for _, off := range []int{8, 16, 256, 2048, 3984, 3992} {
		wrong = append(wrong, changed(func(p *api.Packet) { p.Off = off }), changed(func(p *api.Packet) { p.Off, p.S, p.MF = off, long[:8], true }))
	}
	wrong = append(wrong,
		changed(func(p *api.Packet) { p.TTL = 0 }), changed(func(p *api.Packet) { p.ID = -1 }), changed(func(p *api.Packet) { p.ID = 65536 }),
		changed(func(p *api.Packet) { p.S = strings.Repeat("a", 4001) }), changed(func(p *api.Packet) { p.S = strings.Repeat("a", 65536) }),
		changed(func(p *api.Packet) { p.MF = true }), changed(func(p *api.Packet) { p.MF, p.S = true, "" }), changed(func(p *api.Packet) { p.MF, p.DF, p.S = true, true, long[:8] }),
		changed(func(p *api.Packet) { p.DF, p.Off = true, 8 }),
		changed(func(p *api.Packet) { p.To, p.S = api.All, "" }), changed(func(p *api.Packet) { p.To, p.S, p.MF = api.All, long[:16], true }), changed(func(p *api.Packet) { p.To, p.S, p.Proto = api.All, "\x01", api.PIcmp }))
	for _, p := range wrong {
		for _, c := range causes() {
			none(t, c, p)
		}
	}
}

// TestNewErrorAboutIcmp: P8.2 and P8.4, datagrams with Proto PIcmp and each first byte, and with other protocols.
func TestNewErrorAboutIcmp(t *testing.T) {
	for _, c := range causes() {
		for first := range 256 {
			for _, rest := range []string{"", "\x01", long[:7], long[:500]} {
				p := changed(func(p *api.Packet) { p.Proto, p.S = api.PIcmp, string([]byte{byte(first)})+rest })
				if 3 <= first && first <= 5 {
					none(t, c, p)
				} else {
					built(t, c, p, head(t, p))
				}
				for _, proto := range []int{0, 2, 6, 17, 255} {
					p.Proto = proto
					built(t, c, p, head(t, p))
				}
			}
		}
		p := changed(func(p *api.Packet) { p.Proto, p.S = api.PIcmp, "" })
		built(t, c, p, head(t, p))
		none(t, c, changed(func(p *api.Packet) { p.Proto, p.S, p.MF = api.PIcmp, "\x04"+long[:7], true }))
		none(t, c, changed(func(p *api.Packet) { p.Proto, p.S, p.DF = api.PIcmp, "\x05", true }))
	}
}

// TestNewErrorAboutMessages: P8.4, datagrams that carry the encodings of messages: error messages have none about them, and others do.
func TestNewErrorAboutMessages(t *testing.T) {
	for _, m := range validMessages() {
		s, _ := icmp.Encode(m)
		p := changed(func(p *api.Packet) { p.Proto, p.S = api.PIcmp, s })
		cause := api.ICMPMessage{Kind: api.MGone, Code: api.GoneProto}
		if m.Kind == api.MEcho || m.Kind == api.MReply {
			built(t, cause, p, head(t, p))
		} else {
			none(t, cause, p)
		}
	}
}

// TestNewErrorNumbers: P8.2, kinds, codes and N in all combinations: only those of a valid error message give one.
func TestNewErrorNumbers(t *testing.T) {
	count := 0
	for _, kind := range append([]int{0, 1, 2, 3, 4, 5, 6, 7, 255, 256, 259, 260, 261}, far...) {
		for _, code := range append([]int{0, 1, 2, 3, 4, 5, 6, 255, 256, 257, 258}, far...) {
			for _, n := range append([]int{0, 1, 28, 67, 68, 1024, 1025, 65536, 65604, 4294967295, 4294967296}, far...) {
				c := api.ICMPMessage{Kind: kind, Code: code, N: n}
				if kind >= 3 && valid(c) {
					count++
					built(t, c, good, goodBytes)
				} else {
					none(t, c, good)
				}
			}
		}
	}
	if count != 4+2+2 {
		t.Errorf("%d of them are those of error messages", count)
	}
}

// TestQuotedParts: P8.2, a quotation may end anywhere behind the header, and be of any datagram, also of one that NewError refuses.
func TestQuotedParts(t *testing.T) {
	for _, p := range []api.Packet{
		changed(func(p *api.Packet) { p.S = long[:300] }),
		changed(func(p *api.Packet) { p.Off, p.S = 3992, long[:8] }),
		changed(func(p *api.Packet) { p.Off, p.MF, p.S = 8, true, long[:16] }),
		changed(func(p *api.Packet) { p.To, p.S = api.All, long[:8] }),
		changed(func(p *api.Packet) { p.Proto, p.S = api.PIcmp, "\x03\x01345678" }),
		changed(func(p *api.Packet) { p.DF, p.S = true, long[:4000] }),
	} {
		for _, c := range causes() {
			for size := range 9 {
				c.S = head(t, p)[:20+size]
				want := p
				want.S = p.S[:size]
				quotes(t, c, want)
			}
		}
	}
}

// TestQuotedRefusesMessages: P8.2, echoes, and error messages that are not valid, whatever datagram they quote.
func TestQuotedRefusesMessages(t *testing.T) {
	for _, kind := range []int{math.MinInt, -1, 0, 1, 2, 6, 7, 256, 259, math.MaxInt} {
		for code := range 5 {
			noQuote(t, api.ICMPMessage{Kind: kind, Code: code, S: goodBytes})
			noQuote(t, api.ICMPMessage{Kind: kind, Code: code, N: 68, S: goodBytes})
		}
	}
	for _, m := range wrongMessages() {
		if len(m.S) <= 28 {
			m.S = goodBytes
		}
		noQuote(t, m)
	}
	for _, c := range causes() {
		c.S, _ = ip.Encode(changed(func(p *api.Packet) { p.S = long[:9] }))
		noQuote(t, c)
		c.S, _ = ip.Encode(changed(func(p *api.Packet) { p.S = long[:500] }))
		noQuote(t, c)
	}
	noQuote(t, api.ICMPMessage{})
}

// TestQuotedRefusesHeaders: P8.2, error messages whose S is no header, or too long for the datagram that it describes.
func TestQuotedRefusesHeaders(t *testing.T) {
	for _, c := range causes() {
		for size := range 20 {
			c.S = goodBytes[:size]
			noQuote(t, c)
			c.S = strings.Repeat("\x00", size)
			noQuote(t, c)
		}
		for _, s := range []string{goodBytes + "\x00", goodBytes + "abc", goodBytes[1:], "\x00" + goodBytes, strings.Repeat("\x00", 28), strings.Repeat("\xff", 28), long[:28]} {
			c.S = s
			noQuote(t, c)
		}
		for at := range 20 {
			for _, flip := range []byte{1, 2, 4, 8, 16, 32, 64, 128, 255} {
				b := []byte(goodBytes)
				b[at] ^= flip
				c.S = string(b)
				noQuote(t, c)
			}
		}
	}
}

// TestQuotedOfDecoded: P8.2 and P8.4, the way of an error message over the wire: what is quoted has the whole header.
func TestQuotedOfDecoded(t *testing.T) {
	for _, c := range causes() {
		for size := range 40 {
			p := changed(func(p *api.Packet) { p.S = long[:size] })
			m, ok := icmp.NewError(c.Kind, c.Code, c.N, p)
			s, e := icmp.Encode(m)
			again, d := icmp.Decode(s)
			if !ok || e != api.OK || d != api.OK || again != m || len(m.S) < 20 {
				t.Errorf("%+v about %d bytes: %+v, %v, %d, %d", c, size, m, ok, e, d)
			}
			quotes(t, again, cut(p))
		}
	}
}
