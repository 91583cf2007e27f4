package ticks_test

import (
	"math"
	"math/big"
	"math/rand/v2"
	"testing"

	"stagepost/ticks"
)

// want works out with whole numbers of any size what Elapsed is to answer.
func want(since, now, count int) bool {
	age := new(big.Int).Sub(big.NewInt(int64(now)), big.NewInt(int64(since)))
	return age.Cmp(big.NewInt(int64(count))) >= 0
}

// check compares Elapsed with what it is to answer.
func check(t *testing.T, since, now, count int) {
	t.Helper()
	if got := ticks.Elapsed(since, now, count); got != want(since, now, count) {
		t.Errorf("Elapsed(%d, %d, %d) = %v", since, now, count, got)
	}
}

// TestElapsedTable: times with and without a sign, just before and just after the count, and differences that do not fit into an int.
func TestElapsedTable(t *testing.T) {
	for _, c := range []struct {
		since, now, count int
		want              bool
	}{
		{0, 29, 30, false}, {0, 30, 30, true}, {0, 31, 30, true}, {-15, 14, 30, false}, {-15, 15, 30, true}, {-31, -1, 30, true},
		{5, 4, 30, false}, {5, 4, 0, false}, {5, 5, 0, true}, {5, 5, 1, false}, {100, 0, 30, false},
		{math.MinInt, math.MaxInt, math.MaxInt, true}, {math.MinInt, math.MaxInt, 30, true}, {math.MaxInt, math.MinInt, 0, false}, {math.MaxInt, math.MinInt, 1, false},
		{math.MinInt, 0, math.MaxInt, true}, {math.MinInt, -1, math.MaxInt, true}, {math.MinInt, -2, math.MaxInt, false}, {-1, math.MaxInt, 30, true}, {0, math.MinInt, 30, false},
	} {
		if got := ticks.Elapsed(c.since, c.now, c.count); got != c.want || got != want(c.since, c.now, c.count) {
			t.Errorf("Elapsed(%d, %d, %d) = %v; want %v", c.since, c.now, c.count, got, c.want)
		}
	}
}

// TestElapsedAny: each edge with each and with random counts, and random times near to each other.
func TestElapsedAny(t *testing.T) {
	r := rand.New(rand.NewPCG(0, 1))
	edges := []int{math.MinInt, math.MinInt + 1, math.MinInt + 30, -1 << 32, -31, -30, -1, 0, 1, 29, 30, 31, 600, 1 << 32, math.MaxInt - 30, math.MaxInt - 1, math.MaxInt}
	for _, since := range edges {
		for _, now := range edges {
			for _, count := range []int{0, 1, 2, 10, 29, 30, 31, 600, r.IntN(1000), r.Int(), math.MaxInt - 1, math.MaxInt} {
				check(t, since, now, count)
			}
		}
		for range 1000 {
			check(t, since, since+r.IntN(80)-40, r.IntN(40))
		}
	}
}
