package seq_test

import (
	"math"
	"math/big"
	"math/rand/v2"
	"testing"

	"stagepost/seq"
)

const (
	half = 1 << 31
	all  = 1 << 32
)

// edges are the ints at which one of the functions may change its answer.
func edges() []int {
	out := []int{math.MinInt, math.MinInt + 1, math.MaxInt, math.MaxInt - 1, math.MinInt + half, math.MaxInt - half, math.MinInt + all, math.MaxInt - all}
	for _, middle := range []int{-all - half, -all, -half, 0, half, all, all + half, 2 * all, 1 << 62, -1 << 62} {
		for d := -2; d <= 2; d++ {
			out = append(out, middle+d)
		}
	}
	return out
}

// anyInt returns an int of any size: small ones, those near 2^31 and 2^32, and great ones.
func anyInt(r *rand.Rand) int {
	n := int(r.Uint64() >> r.UintN(64))
	if r.UintN(2) == 0 {
		return -n
	}
	return n
}

// number returns a random sequence number.
func number(r *rand.Rand) int { return int(r.Uint32()) }

// distance returns a random int from -2^31 to 2^31 - 1.
func distance(r *rand.Rand) int { return int(int32(r.Uint32())) }

// modulo returns (a + sign*b) mod 2^32, computed with whole numbers of any size.
func modulo(a, sign, b int) int {
	n := new(big.Int).Mul(big.NewInt(int64(sign)), big.NewInt(int64(b)))
	n.Add(n, big.NewInt(int64(a)))
	return int(n.Mod(n, big.NewInt(all)).Int64())
}

// check compares all functions of two or three ints with what the chapter says about them.
func check(t *testing.T, a, b, n int) {
	t.Helper()
	if got, want := seq.Add(a, b), modulo(a, 1, b); got != want {
		t.Errorf("Add(%d, %d) = %d; want %d", a, b, got, want)
	}
	d := modulo(a, -1, b)
	if got, want := seq.In(a, b, n), n >= 1 && d < n; got != want {
		t.Errorf("In(%d, %d, %d) = %v; want %v", a, b, n, got, want)
	}
	if d >= half {
		d -= all
	}
	if got := seq.Diff(a, b); got != d {
		t.Errorf("Diff(%d, %d) = %d; want %d", a, b, got, d)
	}
	if got := seq.Less(a, b); got != (d < 0) {
		t.Errorf("Less(%d, %d) = %v; want %v", a, b, got, d < 0)
	}
}

// TestValid: P2.1, numbers of the range, its two ends, and numbers outside it.
func TestValid(t *testing.T) {
	for _, c := range []struct {
		a    int
		want bool
	}{
		{0, true}, {1, true}, {77, true}, {half - 1, true}, {half, true}, {half + 1, true}, {all - 2, true}, {all - 1, true},
		{-1, false}, {-2, false}, {-half, false}, {-all, false}, {1 - all, false}, {all, false}, {all + 1, false}, {2*all - 1, false}, {2 * all, false},
		{math.MaxInt, false}, {math.MinInt, false}, {math.MinInt + all, false}, {1 << 62, false},
	} {
		if got := seq.Valid(c.a); got != c.want {
			t.Errorf("Valid(%d) = %v; want %v", c.a, got, c.want)
		}
	}
	r := rand.New(rand.NewPCG(2, 1))
	for range 2000 {
		if a := anyInt(r); seq.Valid(a) != (a >= 0 && a <= all-1) {
			t.Errorf("Valid(%d) = %v", a, seq.Valid(a))
		}
	}
}

// TestAdd: P2.1, ordinary sums, the wrap in both directions, and ints that are no sequence numbers.
func TestAdd(t *testing.T) {
	for _, c := range []struct{ a, n, want int }{
		{0, 0, 0}, {1, 2, 3}, {1000, -1, 999}, {half, half, 0}, {half - 1, 1, half},
		{all - 1, 1, 0}, {all - 1, 2, 1}, {all - 2, 1, all - 1}, {0, -1, all - 1}, {1, -2, all - 1}, {all - 1, all - 1, all - 2},
		{5, all, 5}, {5, -all, 5}, {all, 0, 0}, {all + 7, 0, 7}, {-1, 0, all - 1}, {-1, 1, 0}, {-all, 3, 3}, {-all - 1, 0, all - 1},
		{math.MaxInt, 0, all - 1}, {math.MaxInt, 1, 0}, {math.MaxInt, math.MaxInt, all - 2}, {1, math.MaxInt, 0},
		{math.MinInt, 0, 0}, {math.MinInt, -1, all - 1}, {math.MinInt, math.MinInt, 0}, {math.MinInt, math.MaxInt, all - 1},
	} {
		if got := seq.Add(c.a, c.n); got != c.want {
			t.Errorf("Add(%d, %d) = %d; want %d", c.a, c.n, got, c.want)
		}
	}
}

// TestDiffAndLess: P2.2, ordinary distances, those across the wrap, those of about 2^31, and ints that are no sequence numbers.
func TestDiffAndLess(t *testing.T) {
	for _, c := range []struct{ a, b, want int }{
		{0, 0, 0}, {7, 7, 0}, {all - 1, all - 1, 0}, {5, 3, 2}, {3, 5, -2},
		{1, all - 1, 2}, {all - 1, 1, -2}, {0, all - 1, 1}, {all - 1, 0, -1},
		{half - 1, 0, half - 1}, {half, 0, -half}, {half + 1, 0, 1 - half}, {0, half - 1, 1 - half}, {0, half, -half}, {0, half + 1, half - 1},
		{all - 1, half, half - 1}, {all - 1, half - 1, -half}, {all - 1, half - 2, 1 - half}, {half, all - 1, 1 - half}, {half - 1, all - 1, -half}, {half - 2, all - 1, half - 1},
		{-1, 0, -1}, {0, -1, 1}, {-1, all - 1, 0}, {all, 0, 0}, {all + 5, 2, 3}, {2, -all - 1, 3}, {-half, 0, -half}, {-half - 1, 0, half - 1},
		{math.MaxInt, 0, -1}, {0, math.MaxInt, 1}, {math.MinInt, 0, 0}, {0, math.MinInt, 0}, {math.MinInt, 1, -1}, {math.MaxInt, math.MinInt, -1}, {math.MinInt, math.MaxInt, 1}, {math.MinInt + half, 0, -half},
	} {
		if got := seq.Diff(c.a, c.b); got != c.want {
			t.Errorf("Diff(%d, %d) = %d; want %d", c.a, c.b, got, c.want)
		}
		if got := seq.Less(c.a, c.b); got != (c.want < 0) {
			t.Errorf("Less(%d, %d) = %v; want %v", c.a, c.b, got, c.want < 0)
		}
	}
}

// TestIn: P2.2, windows that cross the wrap, their ends, and windows of no, negative and great sizes.
func TestIn(t *testing.T) {
	for _, c := range []struct {
		a, from, n int
		want       bool
	}{
		{10, 10, 1, true}, {11, 10, 1, false}, {9, 10, 1, false}, {14, 10, 5, true}, {15, 10, 5, false}, {9, 10, 5, false},
		{all - 2, all - 2, 4, true}, {all - 1, all - 2, 4, true}, {0, all - 2, 4, true}, {1, all - 2, 4, true}, {2, all - 2, 4, false}, {all - 3, all - 2, 4, false},
		{all - 1, all - 1, 1, true}, {0, all - 1, 1, false}, {0, all - 1, 2, true}, {all - 1, 0, 1, false},
		{half, 0, half, false}, {half, 0, half + 1, true}, {half - 1, 0, half, true}, {0, half, half, false}, {0, half, half + 1, true},
		{5, 5, 0, false}, {6, 5, 0, false}, {4, 5, 0, false}, {5, 5, -1, false}, {0, 0, -5, false}, {0, 1, -1, false}, {0, 1, -all, false}, {3, 2, math.MinInt, false}, {5, 5, math.MinInt, false},
		{all - 1, 0, all - 1, false}, {all - 1, 0, all, true}, {4, 5, all - 1, false}, {4, 5, all, true}, {5, 5, all, true},
		{4, 5, all + 1, true}, {9, 5, all + 3, true}, {7, 5, all + 1, true}, {4, 5, 2 * all, true}, {7, 5, 2 * all, true}, {4, 5, math.MaxInt, true},
		{-1, all - 1, 1, true}, {-1, 0, all - 1, false}, {-1, -2, 2, true}, {0, -2, 2, false}, {all, 0, 1, true}, {all + 1, 0, 1, false}, {5, all + 5, 1, true}, {5, 5 - all, 1, true}, {4, 5 - all, all - 1, false},
		{math.MaxInt, -1, 1, true}, {math.MaxInt, -1, 0, false}, {math.MinInt, math.MaxInt, 2, true}, {math.MinInt, math.MaxInt, 1, false}, {math.MaxInt, math.MinInt, all - 1, false}, {math.MaxInt, math.MinInt, all, true},
	} {
		if got := seq.In(c.a, c.from, c.n); got != c.want {
			t.Errorf("In(%d, %d, %d) = %v; want %v", c.a, c.from, c.n, got, c.want)
		}
	}
}

// TestAgainstWholeNumbers: P2.1 and P2.2, every pair of edges and many random ints, against a computation that can't overflow.
func TestAgainstWholeNumbers(t *testing.T) {
	r := rand.New(rand.NewPCG(2, 2))
	for _, a := range edges() {
		for _, b := range edges() {
			d := modulo(a, -1, b)
			for _, n := range []int{math.MinInt, -all, -1, 0, 1, d - 1, d, d + 1, all - 1, all, all + 1, math.MaxInt} {
				check(t, a, b, n)
			}
		}
	}
	for range 20000 {
		check(t, anyInt(r), anyInt(r), anyInt(r))
	}
}

// shiftedAlike checks that an amount added to both sequence numbers changes nothing between them.
func shiftedAlike(t *testing.T, a, b, by, n int) {
	t.Helper()
	x, y := seq.Add(a, by), seq.Add(b, by)
	if got, want := seq.Diff(x, y), seq.Diff(a, b); got != want {
		t.Errorf("Diff(%d, %d) = %d, but shifted by %d it is %d", a, b, want, by, got)
	}
	if got, want := seq.Less(x, y), seq.Less(a, b); got != want {
		t.Errorf("Less(%d, %d) = %v, but shifted by %d it is %v", a, b, want, by, got)
	}
	if got, want := seq.In(x, y, n), seq.In(a, b, n); got != want {
		t.Errorf("In(%d, %d, %d) = %v, but shifted by %d it is %v", a, b, n, want, by, got)
	}
}

// TestShift: P2.3, the same amount added to two sequence numbers.
func TestShift(t *testing.T) {
	some := []int{0, 1, 1000, half - 1, half, half + 1, all - 2, all - 1}
	for _, a := range some {
		for _, b := range some {
			for _, by := range edges() {
				shiftedAlike(t, a, b, by, 1)
				shiftedAlike(t, a, b, by, half)
				shiftedAlike(t, a, b, by, modulo(a, -1, b)+1)
			}
		}
	}
	r := rand.New(rand.NewPCG(2, 3))
	for range 20000 {
		shiftedAlike(t, number(r), number(r), anyInt(r), anyInt(r))
	}
}

// backAgain checks that the distance to what was added to a is what was added.
func backAgain(t *testing.T, a, n int) {
	t.Helper()
	if got := seq.Diff(seq.Add(a, n), a); got != n {
		t.Errorf("Diff(Add(%d, %d), %d) = %d", a, n, a, got)
	}
}

// TestDiffOfSum: P2.3, Diff undoes Add for each distance from -2^31 to 2^31 - 1.
func TestDiffOfSum(t *testing.T) {
	for _, a := range edges() {
		for _, n := range []int{-half, 1 - half, -all / 4, -1, 0, 1, all / 4, half - 2, half - 1} {
			backAgain(t, a, n)
		}
	}
	r := rand.New(rand.NewPCG(2, 4))
	for range 20000 {
		backAgain(t, number(r), distance(r))
	}
	// A distance of 2^31 is the same as one of -2^31: the range of Diff ends one below it.
	if got := seq.Diff(seq.Add(9, half), 9); got != -half {
		t.Errorf("Diff(Add(9, 2^31), 9) = %d; want -2^31", got)
	}
}
