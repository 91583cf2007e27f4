package ip_test

import (
	"math"
	"math/rand/v2"
	"slices"
	"testing"

	"stagepost/api"
	"stagepost/ip"
)

// cut returns the fragments of a valid datagram whose encoding is greater than size, worked out without the package, from the last one on.
func cut(p api.Packet, size int) []api.Packet {
	n := (size - 20) / 8 * 8
	var all []api.Packet
	for i := (len(p.S) - 1) / n; i >= 0; i-- {
		f := p
		f.Off = p.Off + i*n
		f.S = p.S[i*n : min((i+1)*n, len(p.S))]
		f.MF = p.MF || len(all) > 0
		all = append(all, f)
	}
	slices.Reverse(all)
	return all
}

// fragmented checks that Fragment answers want.
func fragmented(t *testing.T, p api.Packet, size int, want []api.Packet) {
	t.Helper()
	got, e := ip.Fragment(p, size)
	if !slices.Equal(got, want) || e != api.OK {
		t.Errorf("Fragment(%+v, %d bytes; %d) = %d packets, %d; want %d packets, OK", told(p), len(p.S), size, len(got), e, len(want))
	}
}

// failed checks that Fragment answers an error.
func failed(t *testing.T, p api.Packet, size int, want api.Errno) {
	t.Helper()
	if got, e := ip.Fragment(p, size); len(got) > 0 || e != want {
		t.Errorf("Fragment(%+v, %d bytes; %d) = %d packets, %d; want error %d", told(p), len(p.S), size, len(got), e, want)
	}
}

// TestFragmentExample: P6.3, the document's examples, written out.
func TestFragmentExample(t *testing.T) {
	p := changed(func(p *api.Packet) { p.S = long[:100] })
	q := p
	q.MF = true
	first, second, last := q, q, p
	first.S = long[:48]
	second.Off, second.S = 48, long[48:96]
	last.Off, last.S = 96, long[96:100]
	fragmented(t, p, 68, []api.Packet{first, second, last})
	p.DF = true
	failed(t, p, 68, api.ErrBig)
}

// TestFragmentSizes: P6.3, sizes of every remainder by 8 around the encoding's length and around the least, for datagrams, first, middle and last fragments.
func TestFragmentSizes(t *testing.T) {
	for _, length := range []int{0, 1, 7, 8, 9, 40, 47, 48, 49, 50, 55, 56, 57, 63, 64, 65, 95, 96, 97, 98, 100, 144, 145, 192, 200, 1004, 1005, 1024, 2000, 3999, 4000} {
		sizes := []int{68, 69, 70, 71, 72, 73, 74, 75, 76, 77, 84, 100, 576, 1019, 1020, 1023, 1024, 4019, 4020, 4021, 65535}
		for more := -9; more <= 9; more++ {
			sizes = append(sizes, 20+length+more, 20+length/2+more)
		}
		for _, off := range []int{0, 8, 48, 800, 3200} {
			for _, mf := range []bool{false, true} {
				p := changed(func(p *api.Packet) { p.Off, p.MF, p.S = off, mf, long[:length] })
				if !placed(p) {
					continue
				}
				for _, size := range sizes {
					switch {
					case size < 68:
						failed(t, p, size, api.ErrArg)
					case size >= 20+length:
						fragmented(t, p, size, []api.Packet{p})
					default:
						fragmented(t, p, size, cut(p, size))
					}
				}
			}
		}
	}
}

// TestFragmentLast: P6.3, a last fragment of 1 byte, of one byte less than the others, and of as many.
func TestFragmentLast(t *testing.T) {
	for _, c := range []struct{ length, size, count, last int }{
		{49, 68, 2, 1}, {95, 68, 2, 47}, {96, 68, 2, 48}, {97, 68, 3, 1}, {56, 75, 2, 8}, {57, 76, 2, 1}, {111, 76, 2, 55}, {112, 76, 2, 56}, {113, 76, 3, 1}, {3984, 68, 83, 48}, {3985, 68, 84, 1}, {4000, 68, 84, 16}, {4000, 4019, 2, 8}, {4000, 4012, 2, 8}, {3993, 4012, 2, 1},
	} {
		p := changed(func(p *api.Packet) { p.S = long[:c.length] })
		l, e := ip.Fragment(p, c.size)
		if e != api.OK || len(l) != c.count || len(l[c.count-1].S) != c.last {
			t.Errorf("Fragment(%d bytes, %d) = %d packets, %d; want %d packets, the last with %d bytes", c.length, c.size, len(l), e, c.count, c.last)
		}
	}
}

// TestFragmentRefuses: P6.3, datagrams that are not valid, for every size, too small ones among them.
func TestFragmentRefuses(t *testing.T) {
	for _, p := range wrongPackets() {
		for _, size := range []int{math.MinInt, -1, 0, 20, 67, 68, 69, 1024, 4020, math.MaxInt} {
			failed(t, p, size, api.ErrIp)
		}
	}
}

// TestFragmentRefusesSizes: P6.3, sizes under 68, also where the encoding would fit, and where it would be too big with DF set.
func TestFragmentRefusesSizes(t *testing.T) {
	for _, size := range []int{67, 66, 65, 60, 28, 27, 21, 20, 19, 8, 1, 0, -1, -8, -68, -1024, math.MinInt, math.MinInt + 1, math.MinInt + 19, math.MinInt + 20, math.MinInt + 21, math.MinInt + 68} {
		for _, p := range validPackets() {
			failed(t, p, size, api.ErrArg)
		}
	}
}

// TestFragmentDont: P6.3, DF set, with sizes around the encoding's length.
func TestFragmentDont(t *testing.T) {
	for _, length := range []int{0, 1, 47, 48, 49, 50, 56, 64, 100, 1004, 2000, 3999, 4000} {
		p := changed(func(p *api.Packet) { p.DF, p.S = true, long[:length] })
		for _, size := range []int{68, 69, 76, 1024, length + 12, length + 18, length + 19, length + 20, length + 21, 4020, math.MaxInt} {
			switch {
			case size < 68:
				failed(t, p, size, api.ErrArg)
			case size < 20+length:
				failed(t, p, size, api.ErrBig)
			default:
				fragmented(t, p, size, []api.Packet{p})
			}
		}
	}
}

// TestFragmentFits: P6.3, every valid datagram alone where its encoding fits, up to the greatest int.
func TestFragmentFits(t *testing.T) {
	for _, p := range validPackets() {
		for _, size := range []int{max(68, 20+len(p.S)), max(68, 21+len(p.S)), 4020, 4021, 1 << 32, 1<<32 + 20, math.MaxInt - 1, math.MaxInt} {
			fragmented(t, p, size, []api.Packet{p})
		}
		if size := 19 + len(p.S); size >= 68 && !p.DF {
			fragmented(t, p, size, cut(p, size))
		}
	}
}

// TestFragmentAnswersNewLists: R3, answers do not share memory.
func TestFragmentAnswersNewLists(t *testing.T) {
	p := changed(func(p *api.Packet) { p.S = long[:100] })
	for _, size := range []int{68, 1024} {
		first, _ := ip.Fragment(p, size)
		second, _ := ip.Fragment(p, size)
		want := slices.Clone(second)
		for i := range first {
			first[i] = api.Packet{S: "changed"}
		}
		_ = append(first, api.Packet{S: "more"})
		if !slices.Equal(second, want) {
			t.Errorf("size %d: an answer changes with another one", size)
		}
		fragmented(t, p, size, want)
	}
}

// TestFragmentAgain: P6.4, fragments of random datagrams, which are fragmented again and again: each is valid and fits, and the payloads in the order of Off are the original one.
func TestFragmentAgain(t *testing.T) {
	r := rand.New(rand.NewPCG(6, 4))
	divided := 0
	for range 3000 {
		p := anyPacket(r)
		all := []api.Packet{p}
		for _, size := range []int{68 + r.IntN(4000), 68 + r.IntN(1000), 68 + r.IntN(100)} {
			all = fragmentEach(t, all, size)
		}
		if len(all) > 1 {
			divided++
		}
		r.Shuffle(len(all), func(i, j int) { all[i], all[j] = all[j], all[i] })
		joined(t, p, all)
	}
	if divided < 1000 {
		t.Errorf("of 3000 datagrams, %d were divided", divided)
	}
}

// fragmentEach returns the fragments of all the packets, or the packet itself where it may not be divided.
func fragmentEach(t *testing.T, packets []api.Packet, size int) []api.Packet {
	t.Helper()
	var all []api.Packet
	for _, p := range packets {
		if p.DF && 20+len(p.S) > size {
			failed(t, p, size, api.ErrBig)
			all = append(all, p)
			continue
		}
		l, e := ip.Fragment(p, size)
		if e != api.OK {
			t.Errorf("Fragment(%+v, %d bytes; %d): error %d", told(p), len(p.S), size, e)
		}
		for _, f := range l {
			if s, e := ip.Encode(f); len(s) > size || e != api.OK {
				t.Errorf("a fragment for size %d: %+v, %d bytes, error %d", size, told(f), len(s), e)
			}
		}
		all = append(all, l...)
	}
	return all
}

// joined checks that the fragments, in any order, are those of p.
func joined(t *testing.T, p api.Packet, all []api.Packet) {
	t.Helper()
	slices.SortFunc(all, func(a, b api.Packet) int { return a.Off - b.Off })
	payload := ""
	for i, f := range all {
		want := p
		want.Off, want.S = p.Off+len(payload), f.S
		want.MF = p.MF || i < len(all)-1
		if f != want {
			t.Errorf("fragment %d is %+v; want %+v", i, told(f), told(want))
		}
		payload += f.S
	}
	if payload != p.S {
		t.Errorf("the payloads of the fragments of %+v are not its own", told(p))
	}
}

// TestFragmentAgainExample: P6.4, the first fragment, which has MF, and the last, which has not, fragmented again.
func TestFragmentAgainExample(t *testing.T) {
	p := changed(func(p *api.Packet) { p.S = long[:300] })
	l, _ := ip.Fragment(p, 190)
	if len(l) != 2 {
		t.Fatalf("%d fragments; want 2", len(l))
	}
	for i, c := range []struct{ offs, sizes []int }{{[]int{0, 56, 112}, []int{56, 56, 56}}, {[]int{168, 224, 280}, []int{56, 56, 20}}} {
		again, e := ip.Fragment(l[i], 79)
		if e != api.OK || len(again) != 3 {
			t.Fatalf("fragment %d: %d fragments, %d; want 3, OK", i, len(again), e)
		}
		for j, f := range again {
			want := p
			want.Off, want.MF = c.offs[j], i == 0 || j < 2
			want.S = long[want.Off : want.Off+c.sizes[j]]
			if f != want {
				t.Errorf("fragment %d of fragment %d is %+v; want %+v", j, i, told(f), told(want))
			}
		}
	}
}
