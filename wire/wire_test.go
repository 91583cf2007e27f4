package wire_test

import (
	"hash/crc32"
	"math"
	"math/big"
	"math/rand/v2"
	"strings"
	"testing"

	"stagepost/api"
	"stagepost/wire"
)

// someBytes returns n bytes that look random and are the same in every run.
func someBytes(n int, seed uint64) []byte {
	r := rand.New(rand.NewPCG(seed, 1))
	out := make([]byte, n)
	for i := range out {
		out[i] = byte(r.Uint32())
	}
	return out
}

// put encodes n, which must be possible.
func put(t *testing.T, n, bytes int) string {
	t.Helper()
	s, e := wire.Put(n, bytes)
	if e != api.OK {
		t.Fatalf("Put(%d, %d) = error %d", n, bytes, e)
	}
	return s
}

// TestPutEncodes: P1.1, ordinary numbers, and those that just fit.
func TestPutEncodes(t *testing.T) {
	for _, c := range []struct {
		n, bytes int
		want     string
	}{
		{0, 1, "\x00"}, {1, 1, "\x01"}, {128, 1, "\x80"}, {255, 1, "\xff"},
		{0, 2, "\x00\x00"}, {1, 2, "\x00\x01"}, {258, 2, "\x01\x02"}, {256, 2, "\x01\x00"}, {65535, 2, "\xff\xff"},
		{0, 3, "\x00\x00\x00"}, {0x123456, 3, "\x12\x34\x56"}, {65536, 3, "\x01\x00\x00"}, {1<<24 - 1, 3, "\xff\xff\xff"},
		{0, 4, "\x00\x00\x00\x00"}, {7, 4, "\x00\x00\x00\x07"}, {1 << 24, 4, "\x01\x00\x00\x00"}, {0x89abcdef, 4, "\x89\xab\xcd\xef"}, {api.All, 4, "\xff\xff\xff\xff"},
	} {
		if s, e := wire.Put(c.n, c.bytes); s != c.want || e != api.OK {
			t.Errorf("Put(%d, %d) = %q, %d; want %q, OK", c.n, c.bytes, s, e, c.want)
		}
	}
}

// TestPutRefuses: P1.1, byte counts outside 1..4, negative numbers, and numbers that just don't fit.
func TestPutRefuses(t *testing.T) {
	for _, c := range []struct{ n, bytes int }{
		{0, 0}, {0, 5}, {0, -1}, {0, 8}, {1, 0}, {1, 5}, {1, 64}, {1, math.MaxInt}, {1, math.MinInt}, {-1, 0}, {-1, 5},
		{256, 1}, {65536, 2}, {1 << 24, 3}, {1 << 32, 4}, {math.MaxInt, 1}, {math.MaxInt, 4}, {1 << 40, 4}, {1 << 40, 5},
		{-1, 1}, {-1, 2}, {-1, 3}, {-1, 4}, {-256, 2}, {math.MinInt, 1}, {math.MinInt, 4},
	} {
		if s, e := wire.Put(c.n, c.bytes); s != "" || e != api.ErrWire {
			t.Errorf("Put(%d, %d) = %q, %d; want ErrWire", c.n, c.bytes, s, e)
		}
	}
}

// TestGetDecodes: P1.1, from the first to the last offset at which the bytes are within the string.
func TestGetDecodes(t *testing.T) {
	const s = "\x80\x01\xfe\x03\x04"
	for _, c := range []struct{ at, bytes, want int }{
		{0, 1, 0x80}, {2, 1, 0xfe}, {4, 1, 4},
		{0, 2, 0x8001}, {1, 2, 0x01fe}, {3, 2, 0x0304},
		{0, 3, 0x8001fe}, {2, 3, 0xfe0304},
		{0, 4, 0x8001fe03}, {1, 4, 0x01fe0304},
	} {
		if n, e := wire.Get(s, c.at, c.bytes); n != c.want || e != api.OK {
			t.Errorf("Get(%q, %d, %d) = %x, %d; want %x, OK", s, c.at, c.bytes, n, e, c.want)
		}
	}
	if n, e := wire.Get("\xff\xff\xff\xff", 0, 4); n != api.All || e != api.OK {
		t.Errorf("Get of four bytes ff = %d, %d; want %d, OK", n, e, api.All)
	}
}

// TestGetRefuses: P1.1, byte counts outside 1..4, and offsets before, at and past the end.
func TestGetRefuses(t *testing.T) {
	const s = "\x01\x02\x03\x04\x05\x06"
	for _, c := range []struct {
		s         string
		at, bytes int
	}{
		{s, 0, 0}, {s, 0, 5}, {s, 0, -1}, {s, 6, 0}, {s, 7, -1}, {s, 0, math.MaxInt}, {s, 0, math.MinInt}, {s, math.MaxInt, math.MaxInt}, {s, math.MinInt, math.MinInt},
		{s, -1, 1}, {s, -1, 4}, {s, -4, 4}, {s, math.MinInt, 1}, {s, math.MinInt, 4},
		{s, 5, 2}, {s, 4, 3}, {s, 3, 4}, {s, 5, 4},
		{s, 6, 1}, {s, 6, 4}, {s, 7, 1}, {s, 7, 4}, {s, math.MaxInt, 1}, {s, math.MaxInt - 1, 4},
		{"", 0, 1}, {"", 0, 4}, {"", 0, 0}, {"", -1, 1}, {"", 1, 1}, {"\x01\x02\x03", 0, 4},
	} {
		if n, e := wire.Get(c.s, c.at, c.bytes); n != 0 || e != api.ErrWire {
			t.Errorf("Get(%q, %d, %d) = %d, %d; want ErrWire", c.s, c.at, c.bytes, n, e)
		}
	}
}

// TestChecksumValues: P1.2, with odd lengths, the empty string, and sums whose carries carry again.
func TestChecksumValues(t *testing.T) {
	for _, c := range []struct {
		s    string
		want int
	}{
		{"", 65535}, {"\x00", 65535}, {"\x00\x00", 65535}, {"\x00\x01", 65534}, {"\x01\x00", 65535 - 256},
		{"\x01", 65535 - 256}, {"\x00\x00\x01", 65535 - 256}, {"\xff", 255}, {"\x12\x34\x56", 65535 - 0x1234 - 0x5600},
		{"\xff\xff", 0}, {"\xff\xff\x00\x00", 0}, {"\xff\xfe\x00\x01", 0}, {"\x80\x00\x80\x00", 65534},
		{"\xff\xff\xff\xff\x00\x01", 65534}, {"\xff\xff\xff\xff\x01", 65535 - 256},
		{"\x00\x01\xf2\x03\xf4\xf5\xf6\xf7", 0x220d},
	} {
		if n := wire.Checksum(c.s); n != c.want {
			t.Errorf("Checksum(%q) = %x, want %x", c.s, n, c.want)
		}
	}
}

// sumOfAll computes the one's complement sum another way: the words are the digits of one number, and 65536 leaves 1 when it is divided by 65535.
func sumOfAll(s []byte) int {
	if len(s)%2 == 1 {
		s = append(s[:len(s):len(s)], 0)
	}
	all := new(big.Int).SetBytes(s)
	if all.Sign() == 0 {
		return 0
	}
	rest := new(big.Int).Mod(all, big.NewInt(65535))
	if rest.Sign() == 0 {
		return 65535
	}
	return int(rest.Int64())
}

// TestChecksumOfMany: P1.2, strings of many lengths, among them one whose plain sum needs more than 32 bits.
func TestChecksumOfMany(t *testing.T) {
	cases := [][]byte{[]byte(strings.Repeat("\xff\xfe", 70000)), someBytes(200001, 3)}
	for n := range 300 {
		cases = append(cases, someBytes(n, uint64(n)))
	}
	for _, s := range cases {
		if n, want := wire.Checksum(string(s)), 65535-sumOfAll(s); n != want {
			t.Errorf("Checksum of %d bytes = %x, want %x", len(s), n, want)
		}
	}
}

// TestCRC32Values: P1.2.
func TestCRC32Values(t *testing.T) {
	for _, c := range []struct {
		s    string
		want int
	}{
		{"", 0}, {"123456789", 0xcbf43926}, {"\x00", 0xd202ef8d}, {"\x01", 0xa505df1b}, {"\xff", 0xff000000}, {"\xff\xff\xff\xff", 0xffffffff}, {"a", 0xe8b7be43},
	} {
		if n := wire.CRC32(c.s); n != c.want {
			t.Errorf("CRC32(%q) = %x, want %x", c.s, n, c.want)
		}
	}
}

// TestCRC32OfMany: P1.2, against the library's CRC-32, which has the same polynomial.
func TestCRC32OfMany(t *testing.T) {
	for n := range 300 {
		s := someBytes(n, uint64(n))
		if got, want := wire.CRC32(string(s)), int(crc32.ChecksumIEEE(s)); got != want {
			t.Errorf("CRC32 of %d bytes = %x, want %x", n, got, want)
		}
	}
}

// TestGetInvertsPut: P1.3, at every offset of a longer string.
func TestGetInvertsPut(t *testing.T) {
	around := string(someBytes(9, 5))
	for bytes := 1; bytes <= 4; bytes++ {
		most := 1<<(8*bytes) - 1
		for _, n := range []int{0, 1, 0x7f, 0x80, most / 3, most/2 + 1, most - 1, most} {
			code := put(t, n, bytes)
			for at := range len(around) + 1 {
				s := around[:at] + code + around[at:]
				if got, e := wire.Get(s, at, bytes); got != n || e != api.OK {
					t.Errorf("Get of Put(%d, %d) at %d = %d, %d", n, bytes, at, got, e)
				}
			}
		}
	}
}

// TestEveryNumberOfTwoBytes: P1.3, all numbers of one and of two bytes.
func TestEveryNumberOfTwoBytes(t *testing.T) {
	for bytes := 1; bytes <= 2; bytes++ {
		for n := range 1 << (8 * bytes) {
			if got, e := wire.Get(put(t, n, bytes), 0, bytes); got != n || e != api.OK {
				t.Fatalf("Get of Put(%d, %d) = %d, %d", n, bytes, got, e)
			}
		}
	}
}

// TestChecksumAppended: P1.3, a string of even length with its checksum behind it.
func TestChecksumAppended(t *testing.T) {
	cases := []string{"", "\x00\x00", "\xff\xff", "\xff\xff\x00\x01", strings.Repeat("\xfe\xdc", 40000)}
	for n := 2; n < 200; n += 2 {
		cases = append(cases, string(someBytes(n, uint64(n))))
	}
	for _, s := range cases {
		if n := wire.Checksum(s + put(t, wire.Checksum(s), 2)); n != 0 {
			t.Errorf("Checksum of %d bytes with their checksum = %x, want 0", len(s), n)
		}
	}
}

// TestChecksumOfExchanged: P1.3, every pair of words of a string of odd length, but for its last half word.
func TestChecksumOfExchanged(t *testing.T) {
	s := someBytes(41, 7)
	want := wire.Checksum(string(s))
	for i := 0; i+1 < len(s); i += 2 {
		for j := i + 2; j+1 < len(s); j += 2 {
			x := []byte(string(s))
			x[i], x[i+1], x[j], x[j+1] = s[j], s[j+1], s[i], s[i+1]
			if n := wire.Checksum(string(x)); n != want {
				t.Errorf("Checksum with the words at %d and %d exchanged = %x, want %x", i, j, n, want)
			}
		}
	}
}

// TestCRC32OfChangedByte: P1.3, every other value of every byte.
func TestCRC32OfChangedByte(t *testing.T) {
	for _, length := range []int{1, 2, 5, 40} {
		s := someBytes(length, uint64(length))
		want := wire.CRC32(string(s))
		for at := range s {
			for flip := 1; flip <= 255; flip++ {
				x := []byte(string(s))
				x[at] ^= byte(flip)
				if wire.CRC32(string(x)) == want {
					t.Errorf("CRC32 of %d bytes is the same with byte %d changed by %x", length, at, flip)
				}
			}
		}
	}
}
