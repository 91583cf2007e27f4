package icmp_test

import (
	"math"
	"math/big"
	"math/rand/v2"
	"slices"
	"testing"

	"stagepost/api"
	"stagepost/icmp"
)

// model is a table worked out without the package: what was stored, in the order of the calls.
type model struct {
	list []stored
}

type stored struct{ to, size, at int }

// fresh reports whether an entry holds at a time, with whole numbers of any size.
func (e stored) fresh(now int) bool {
	end := new(big.Int).Add(big.NewInt(int64(e.at)), big.NewInt(600))
	return big.NewInt(int64(now)).Cmp(end) < 0
}

func (m *model) lower(now, to, size int) bool {
	if now < 0 || now > 1000000000 || to < 0 || to > 4294967295 || size < 68 || size > 1024 {
		return false
	}
	var stay []stored
	for _, e := range m.list {
		if e.fresh(now) {
			stay = append(stay, e)
		}
	}
	m.list = stay
	i := slices.IndexFunc(m.list, func(e stored) bool { return e.to == to })
	if i >= 0 && m.list[i].size <= size {
		return false
	}
	if i >= 0 {
		m.list = slices.Delete(m.list, i, i+1)
	}
	m.list = append(m.list, stored{to, size, now})
	m.list = m.list[max(0, len(m.list)-16):]
	return true
}

func (m *model) size(now, to, mtu int) int {
	for _, e := range m.list {
		if e.to == to && e.fresh(now) && e.size < mtu {
			return e.size
		}
	}
	return mtu
}

// clock gives random times of one manner: small steps, steps of about 600 in all, a clock that goes back too, or the ends of the range.
func clock(r *rand.Rand) func() int {
	now := []int{0, 700, 1000000000 - 5000}[r.IntN(3)]
	manner := r.IntN(4)
	return func() int {
		switch manner {
		case 0:
			now += r.IntN(3)
		case 1:
			now += []int{0, 0, 1, 30, 299, 300, 301, 599, 600, 601}[r.IntN(10)]
		case 2:
			now = 2000 + r.IntN(1000)
		case 3:
			return []int{0, 1, 599, 600, 601, 1000000000, 999999999, 1000000000 - 599, 1000000000 - 600}[r.IntN(9)]
		}
		return now
	}
}

// TestAgainstModel: P8.3 and P8.4, random calls for few and many addresses, at times of every manner, with wrong ones among them.
func TestAgainstModel(t *testing.T) {
	r := rand.New(rand.NewPCG(8, 4))
	done, kept, most := 0, 0, 0
	for range 2000 {
		x, m, time := icmp.New(), &model{}, clock(r)
		places := addresses(r)
		for range 150 {
			now, to, size := time(), places[r.IntN(len(places))], 68+r.IntN(957)
			switch r.IntN(30) {
			case 0:
				now = []int{-1, 1000000001, math.MinInt, math.MaxInt}[r.IntN(4)]
			case 1:
				to = []int{-1, api.All + 1, math.MinInt, math.MaxInt}[r.IntN(4)]
			case 2:
				size = []int{67, 1025, 0, -68, math.MinInt, math.MaxInt}[r.IntN(6)]
			}
			want := m.lower(now, to, size)
			lower(t, x, now, to, size, want, len(m.list))
			if want {
				done++
			} else {
				kept++
			}
			most = max(most, x.Len())
			readsAlike(t, r, x, m, now, places)
		}
		if t.Failed() {
			return
		}
	}
	if done < 10000 || kept < 10000 || most != 16 {
		t.Errorf("%d calls lowered, %d did not, and there were %d entries at the most", done, kept, most)
	}
}

// addresses returns some addresses, of which there are few or many.
func addresses(r *rand.Rand) []int {
	var all []int
	for range 1 + r.IntN(30) {
		all = append(all, []int{r.IntN(30), int(r.Uint32()), 0, api.All}[r.IntN(4)])
	}
	return all
}

// readsAlike checks what Size answers for a few of the addresses.
func readsAlike(t *testing.T, r *rand.Rand, x *icmp.Paths, m *model, now int, places []int) {
	t.Helper()
	for range 4 {
		to := places[r.IntN(len(places))]
		at := []int{now, now + 1, now + 598 + r.IntN(4), now - r.IntN(1200), r.Int(), -r.Int(), math.MinInt, math.MaxInt}[r.IntN(8)]
		mtu := []int{1024, 68 + r.IntN(957), math.MaxInt, math.MinInt, 0}[r.IntN(5)]
		sized(t, x, at, to, mtu, m.size(at, to, mtu))
	}
}

// TestNeverGreater: P8.4, a path MTU does not become greater while its entry is fresh and stored.
func TestNeverGreater(t *testing.T) {
	r := rand.New(rand.NewPCG(8, 5))
	for range 300 {
		x, now, before := icmp.New(), r.IntN(1000), map[int]int{}
		for range 200 {
			// Ten addresses do not fill the table, and 200 ticks are less than the time for which an entry is fresh.
			now += r.IntN(2)
			x.Lower(now, r.IntN(10), 60+r.IntN(1000))
			for to := range 10 {
				size := x.Size(now, to, 2000)
				if was, ok := before[to]; ok && size > was {
					t.Fatalf("Size for %d was %d and is %d", to, was, size)
				}
				before[to] = size
			}
		}
	}
}
