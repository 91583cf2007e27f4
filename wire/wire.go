// Package wire is layer 1: numbers in bytes, checksums. See shared/doc/01-wire.md.
package wire

import (
	"iter"

	"stagepost/api"
)

// width is the largest number of bytes that a number is encoded in.
const width = 4

// maxWord is the largest number that 16 bits hold.
const maxWord = 65535

// polynomial is that of the CRC-32, its bits reflected.
const polynomial uint32 = 0xedb88320

// Put returns the big-endian encoding of n in the given number of bytes.
func Put(n int, bytes int) (string, api.Errno) {
	if !validWidth(bytes) || n < 0 || n>>(8*bytes) != 0 {
		return "", api.ErrWire
	}
	all := split(n)
	out := make([]byte, bytes)
	copy(out, all[width-bytes:])
	return string(out), api.OK
}

// Get returns the number that the given number of bytes of s encode, from offset at on.
func Get(s string, at int, bytes int) (int, api.Errno) {
	// The bound is len(s)-bytes because at+bytes might wrap around.
	if !validWidth(bytes) || at < 0 || at > len(s)-bytes {
		return 0, api.ErrWire
	}
	var all [width]byte
	copy(all[width-bytes:], s[at:at+bytes])
	return join(all), api.OK
}

// Checksum returns the Internet checksum of s.
func Checksum(s string) int {
	sum := 0
	for word := range words(s) {
		sum += word
	}
	for sum > maxWord {
		sum = sum&maxWord + sum>>16
	}
	return maxWord - sum
}

// CRC32 returns the CRC-32 of s.
func CRC32(s string) int {
	register := ^uint32(0)
	update := func(b byte) {
		register ^= uint32(b)
		for range 8 {
			// A mask instead of a branch, because no processor can foretell which bit falls out.
			register = register>>1 ^ polynomial&-(register&1)
		}
	}
	for i := range len(s) {
		update(s[i])
	}
	return int(^register)
}

func validWidth(bytes int) bool { return 1 <= bytes && bytes <= width }

// split returns the lowest bytes of n, the greatest first.
func split(n int) [width]byte {
	var all [width]byte
	for i := range all {
		all[width-1-i] = byte(n >> (8 * i))
	}
	return all
}

// join is the inverse of split.
func join(all [width]byte) int {
	n := 0
	for _, b := range all {
		n = n<<8 | int(b)
	}
	return n
}

// words yields the 16-bit words of s; an odd last byte is the high one of its word.
func words(s string) iter.Seq[int] {
	return func(yield func(int) bool) {
		for at := 0; at < len(s); at += 2 {
			word := int(s[at]) << 8
			if at+1 < len(s) {
				word |= int(s[at+1])
			}
			if !yield(word) {
				return
			}
		}
	}
}
