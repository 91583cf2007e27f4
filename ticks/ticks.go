// Package ticks compares times, which are counted in ticks and may be any int.
package ticks

// Elapsed reports whether now is at least count ticks after since. The count is not negative.
func Elapsed(since, now, count int) bool {
	// Unsigned, because the difference of two ints may not fit into an int.
	return now >= since && uint(now)-uint(since) >= uint(count)
}
