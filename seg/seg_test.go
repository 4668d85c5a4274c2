package seg

import (
	"math"
	"math/rand"
	"testing"

	"saltern/api"
)

// last: the last place that memory has.
const last = math.MaxUint32

// edges: numbers of 32 bits about the ends, about those of n, and about ones that a sign or a cut would change.
func edges() []uint32 {
	var all []uint32
	for _, edge := range []uint32{2, 16, 1 << 8, 1 << 16, api.CodeAt, api.DataAt, 1 << 31, last - 17, last - 2} {
		all = append(all, edge-2, edge-1, edge, edge+1, edge+2)
	}
	return all
}

// open: a segment in which all may be done.
func open(base, size uint32) api.Seg {
	return api.Seg{Base: base, Size: size, R: true, W: true, X: true}
}

// segs: an open segment of each two edges, Right or not.
func segs() []api.Seg {
	var all []api.Seg
	for _, base := range edges() {
		for _, size := range edges() {
			all = append(all, open(base, size))
		}
	}
	return all
}

// counts: each n with the one as which it counts.
func counts() map[int]int {
	all := map[int]int{
		0: 1, -1: 1, -2: 1, -16: 1, math.MinInt: 1, math.MinInt + 5: 1, math.MinInt32: 1, -1<<32 + 9: 1,
		17: 16, 18: 16, 32: 16, 256: 16, 257: 16, math.MaxInt32: 16, 1<<31 + 1: 16, 1 << 32: 16, 1<<32 + 1: 16, math.MaxInt: 16,
	}
	for n := 1; n <= 16; n++ {
		all[n] = n
	}
	return all
}

// unknown: numbers of nothing that is done: about the ends, and ones that would pass for one by some of their bits.
func unknown() []int {
	all := []int{-1, -2, -3, 3, 4, 5, 7, 8, 100, math.MaxInt, math.MinInt}
	for what := range 3 {
		all = append(all, what+1<<8, what-1<<8, what+1<<32, what-1<<32, what+math.MinInt)
	}
	return all
}

// whole answers the place behind a segment's last byte, which memory may not have.
func whole(s api.Seg) int64 {
	return int64(s.Base) + int64(s.Size)
}

// asked answers what At should of an open segment: byte by byte, in whole numbers.
func asked(s api.Seg, off uint32, n int) (uint32, api.Errno) {
	if whole(s) > 1<<32 {
		return 0, api.ErrSeg
	}
	for i := range int64(n) {
		if int64(off)+i >= int64(s.Size) {
			return 0, api.ErrSeg
		}
	}
	return uint32(int64(s.Base) + int64(off)), api.OK
}

// want holds an answer of At against what it should be.
func want(t *testing.T, s api.Seg, off uint32, n, what int, place uint32, err api.Errno) {
	t.Helper()
	if p, e := At(s, off, n, what); p != place || e != err {
		t.Fatalf("P7.1: At(%+v, %#x, %d, %d): %#x, %d, not %#x, %d", s, off, n, what, p, e, place, err)
	}
}

func TestRightByHand(t *testing.T) {
	for _, x := range []struct {
		base, size uint32
		want       bool
	}{
		{0, 0, true}, {0, 1, true}, {0, last, true}, {1, last - 1, true}, {1, last, true}, {2, last, false}, {2, last - 1, true}, {3, last - 1, false},
		{last, 0, true}, {last, 1, true}, {last, 2, false}, {last, last, false}, {last - 1, 2, true}, {last - 1, 3, false}, {last - 15, 16, true}, {last - 15, 17, false},
		{1 << 31, 1 << 31, true}, {1 << 31, 1<<31 + 1, false}, {1<<31 + 1, 1 << 31, false}, {1<<31 - 1, 1 << 31, true}, {5, 0, true},
		{api.CodeAt, api.MaxCode, true}, {api.DataAt, api.MaxData, true}, {api.DataAt, last - api.DataAt + 1, true}, {api.DataAt, last - api.DataAt + 2, false},
	} {
		if got := Right(api.Seg{Base: x.base, Size: x.size}); got != x.want {
			t.Errorf("P7.1: Right({%#x, %#x}): %v", x.base, x.size, got)
		}
	}
}

func TestRightWhateverMayBeDone(t *testing.T) {
	for _, s := range segs() {
		for rights := range 8 {
			s.R, s.W, s.X = rights&1 != 0, rights&2 != 0, rights&4 != 0
			if got := Right(s); got != (whole(s) <= 1<<32) {
				t.Errorf("P7.1: Right(%+v): %v", s, got)
			}
		}
	}
}

func TestAtByHand(t *testing.T) {
	want(t, api.Seg{Base: 0, Size: 4, R: true}, 1, 4, api.ToRead, 0, api.ErrSeg)
	want(t, api.Seg{Base: 0, Size: 4, R: true}, 0, 4, api.ToRead, 0, api.OK)
	want(t, api.Seg{Base: 0x1000, Size: 20, R: true}, 4, 16, api.ToRead, 0x1004, api.OK)
	want(t, api.Seg{Base: 0x1000, Size: 20, R: true}, 5, 16, api.ToRead, 0, api.ErrSeg)
	want(t, api.Seg{Base: api.DataAt, Size: api.MaxData, R: true, W: true}, 7, 8, api.ToWrite, api.DataAt+7, api.OK)
	want(t, api.Seg{Base: api.CodeAt, Size: api.MaxCode, X: true}, api.MaxCode-1, 1, api.ToRun, api.CodeAt+api.MaxCode-1, api.OK)
	want(t, api.Seg{Base: api.CodeAt, Size: api.MaxCode, X: true}, api.MaxCode-1, 2, api.ToRun, 0, api.ErrSeg)
}

func TestAtTheLastByte(t *testing.T) {
	for n := uint32(1); n <= 16; n++ {
		for _, base := range []uint32{0, 1, 77, 1 << 31, last - 99} {
			s := open(base, 100)
			for what := range 3 {
				want(t, s, 100-n, int(n), what, base+100-n, api.OK)
				want(t, s, 100-n+1, int(n), what, 0, api.ErrSeg)
				want(t, s, 100, int(n), what, 0, api.ErrSeg)
			}
		}
	}
}

func TestAtOfNoBytes(t *testing.T) {
	for _, base := range edges() {
		for _, off := range append(edges(), last-base, -base) {
			for n := range counts() {
				want(t, open(base, 0), off, n, api.ToRead, 0, api.ErrSeg)
			}
		}
	}
}

func TestAtUpToTheLastPlace(t *testing.T) {
	want(t, open(last, 1), 0, 1, api.ToRead, last, api.OK)
	want(t, open(last, 2), 0, 1, api.ToRead, 0, api.ErrSeg)
	want(t, open(last-15, 16), 0, 16, api.ToRead, last-15, api.OK)
	want(t, open(last-15, 16), 15, 1, api.ToRead, last, api.OK)
	want(t, open(last-15, 16), 1, 16, api.ToRead, 0, api.ErrSeg)
	want(t, open(last-15, 17), 0, 1, api.ToRead, 0, api.ErrSeg)
	want(t, open(1, last), 0, 16, api.ToWrite, 1, api.OK)
	want(t, open(1, last), last-1, 1, api.ToWrite, last, api.OK)
	want(t, open(1, last), last-16, 16, api.ToWrite, last-15, api.OK)
	want(t, open(2, last), 0, 1, api.ToWrite, 0, api.ErrSeg)
	want(t, open(0, last), last-1, 1, api.ToRun, last-1, api.OK)
}

func TestAtWhereSumsGoRound(t *testing.T) {
	for n := 2; n <= 16; n++ {
		for off := last - n + 1; off <= last; off++ {
			want(t, open(0, last), uint32(off), n, api.ToRead, 0, api.ErrSeg)
			want(t, open(0, 64), uint32(off), n, api.ToRead, 0, api.ErrSeg)
			want(t, open(api.DataAt, 64), uint32(off), n, api.ToRead, 0, api.ErrSeg)
		}
	}
	want(t, open(0, last), last, 1, api.ToRead, 0, api.ErrSeg)
	want(t, open(api.DataAt, 64), -api.DataAt&last, 1, api.ToRead, 0, api.ErrSeg)
	want(t, open(32, 64), last-31, 4, api.ToRead, 0, api.ErrSeg)
}

func TestAtAgainstTheModel(t *testing.T) {
	for _, s := range segs() {
		for _, off := range append(edges(), s.Size-16, s.Size-1, s.Size, last-s.Base, -s.Base) {
			for _, n := range []int{1, 2, 4, 8, 16} {
				place, err := asked(s, off, n)
				want(t, s, off, n, api.ToRead, place, err)
			}
		}
	}
}

func TestAtTakesTheNearestCount(t *testing.T) {
	for size := uint32(0); size < 20; size++ {
		for off := uint32(0); off < 20; off++ {
			for n, as := range counts() {
				place, err := asked(open(500, size), off, as)
				want(t, open(500, size), off, n, api.ToRun, place, err)
			}
		}
	}
	for n, as := range counts() {
		place, err := asked(open(0, last), last-9, as)
		want(t, open(0, last), last-9, n, api.ToRead, place, err)
	}
}

func TestAtByWhatMayBeDone(t *testing.T) {
	for rights := range 8 {
		s := api.Seg{Base: 40, Size: 8, R: rights&1 != 0, W: rights&2 != 0, X: rights&4 != 0}
		for what, allowed := range map[int]bool{api.ToRead: s.R, api.ToWrite: s.W, api.ToRun: s.X} {
			if allowed {
				want(t, s, 3, 4, what, 43, api.OK)
				want(t, s, 5, 4, what, 0, api.ErrSeg)
			} else {
				want(t, s, 3, 4, what, 0, api.ErrMay)
			}
		}
		for _, what := range unknown() {
			want(t, s, 3, 4, what, 0, api.ErrMay)
		}
	}
}

// Where both errors would be, it is told that it may not be done.
func TestAtTellsMayFirst(t *testing.T) {
	for _, s := range []api.Seg{{Base: 40, Size: 8}, {Base: 40}, {Base: last, Size: 2}, {Base: 2, Size: last}} {
		for _, off := range []uint32{0, 7, 8, 9, 1 << 31, last} {
			for n := range counts() {
				for what := range 3 {
					shut, single := s, s
					shut.R, shut.W, shut.X = what != api.ToRead, what != api.ToWrite, what != api.ToRun
					single.R, single.W, single.X = !shut.R, !shut.W, !shut.X
					want(t, shut, off, n, what, 0, api.ErrMay)
					if off > 7 || !Right(s) || s.Size == 0 {
						want(t, single, off, n, what, 0, api.ErrSeg)
					}
				}
				for _, what := range unknown() {
					want(t, open(s.Base, s.Size), off, n, what, 0, api.ErrMay)
				}
			}
		}
	}
}

func TestWithinByHand(t *testing.T) {
	for _, x := range []struct {
		base, size, at uint32
		want           bool
	}{
		{10, 4, 9, false}, {10, 4, 10, true}, {10, 4, 11, true}, {10, 4, 13, true}, {10, 4, 14, false}, {10, 4, 0, false}, {10, 4, last, false},
		{10, 1, 9, false}, {10, 1, 10, true}, {10, 1, 11, false}, {10, 0, 9, false}, {10, 0, 10, false}, {10, 0, 11, false},
		{0, 1, 0, true}, {0, 1, 1, false}, {0, 0, 0, false}, {0, 1, last, false}, {0, last, last - 1, true}, {0, last, last, false}, {1, last, 0, false}, {1, last, 1, true}, {1, last, last, true},
		{last, 0, last, false}, {last, 1, last, true}, {last, 1, last - 1, false}, {last, 1, 0, false}, {last - 15, 16, last - 16, false}, {last - 15, 16, last - 15, true}, {last - 15, 16, last, true}, {last - 15, 16, 0, false},
		{1 << 31, 4, 1<<31 - 1, false}, {1 << 31, 4, 1 << 31, true}, {1 << 31, 4, 1<<31 + 3, true}, {1 << 31, 4, 1<<31 + 4, false},
		// Segments that aren't Right: no byte of theirs is one of the first places.
		{last, 5, last - 1, false}, {last, 5, last, true}, {last, 5, 0, false}, {last, 5, 3, false}, {2, last, 1, false}, {2, last, 0, false}, {2, last, 2, true}, {2, last, last, true}, {last, last, 0, false}, {last, last, last - 2, false},
	} {
		if got := Within(api.Seg{Base: x.base, Size: x.size}, x.at); got != x.want {
			t.Errorf("P7.1: Within({%#x, %#x}, %#x): %v", x.base, x.size, x.at, got)
		}
	}
}

func TestWithinAgainstTheModel(t *testing.T) {
	for _, s := range segs() {
		for _, at := range append(edges(), s.Base-1, s.Base, s.Base+s.Size-1, s.Base+s.Size) {
			model := int64(at) >= int64(s.Base) && int64(at) < whole(s)
			for rights := range 8 {
				s.R, s.W, s.X = rights&1 != 0, rights&2 != 0, rights&4 != 0
				if got := Within(s, at); got != model {
					t.Fatalf("P7.1: Within(%+v, %#x): %v", s, at, got)
				}
			}
		}
	}
}

func TestApartByHand(t *testing.T) {
	for _, x := range []struct {
		told string
		a, b api.Seg
		want bool
	}{
		{"they touch", open(10, 5), open(15, 5), true},
		{"they share one byte", open(10, 6), open(15, 5), false},
		{"they share one byte of one", open(10, 5), open(14, 1), false},
		{"a gap of one byte", open(10, 4), open(15, 5), true},
		{"one lies in the other", open(10, 9), open(12, 3), false},
		{"one lies in the other, at its first byte", open(10, 9), open(10, 3), false},
		{"one lies in the other, up to its last byte", open(10, 9), open(16, 3), false},
		{"the same", open(10, 9), open(10, 9), false},
		{"an empty one within", open(10, 9), open(12, 0), true},
		{"an empty one at the first byte", open(10, 9), open(10, 0), true},
		{"an empty one at the last byte", open(10, 9), open(18, 0), true},
		{"an empty one behind", open(10, 9), open(19, 0), true},
		{"two empty ones, the same", open(10, 0), open(10, 0), true},
		{"two empty ones", open(10, 0), open(0, 0), true},
		{"an empty one at the last place, within", open(0xffff0000, 0x10000), open(last, 0), true},
		{"they touch, up to the last place", open(0, last), open(last, 1), true},
		{"they share the last place", open(1, last), open(last, 1), false},
		{"the first place and all others", open(0, 1), open(1, last), true},
		{"two halves", open(0, 1<<31), open(1<<31, 1<<31), true},
		{"two halves and a byte", open(0, 1<<31+1), open(1<<31, 1<<31), false},
		{"the last place and the first", open(last, 1), open(0, 1), true},
		{"code and data", open(api.CodeAt, api.MaxCode), open(api.DataAt, api.MaxData), true},
		{"one isn't Right", open(last, 2), open(100, 5), false},
		{"one isn't Right, and the other one is empty", open(2, last), open(1, 0), false},
		{"one isn't Right, and goes round to just before the other", open(last-9, 20), open(10, 5), false},
		{"both aren't Right", open(last, 2), open(2, last), false},
		{"one isn't Right, twice", open(last, 2), open(last, 2), false},
	} {
		for rights := range 64 {
			a, b := x.a, x.b
			a.R, a.W, a.X = rights&1 != 0, rights&2 != 0, rights&4 != 0
			b.R, b.W, b.X = rights&8 != 0, rights&16 != 0, rights&32 != 0
			if Apart(a, b) != x.want || Apart(b, a) != x.want {
				t.Fatalf("P7.1: %s: Apart(%+v, %+v): %v, and %v", x.told, a, b, Apart(a, b), Apart(b, a))
			}
		}
	}
}

// common answers whether two short segments have a byte in common, byte by byte.
func common(a, b api.Seg) bool {
	for i := range int64(a.Size) {
		for k := range int64(b.Size) {
			if int64(a.Base)+i == int64(b.Base)+k {
				return true
			}
		}
	}
	return false
}

func TestApartAgainstTheModel(t *testing.T) {
	var short []api.Seg
	for _, from := range []uint32{0, 1 << 31, last - 7} {
		for base := range uint32(8) {
			for size := range uint32(7) {
				short = append(short, open(from+base, size))
			}
		}
	}
	for _, a := range short {
		for _, b := range short {
			model := whole(a) <= 1<<32 && whole(b) <= 1<<32 && !common(a, b)
			if got := Apart(a, b); got != model {
				t.Fatalf("P7.1: Apart(%+v, %+v): %v", a, b, got)
			}
		}
	}
}

// Of whatever segment and off: what At lets through are bytes of the segment, one behind the other, and none of a segment that isn't Right.
func TestNoByteBeyondTheEnd(t *testing.T) {
	r := rand.New(rand.NewSource(7))
	near := func() uint32 {
		all := edges()
		return all[r.Intn(len(all))] + uint32(r.Intn(40)) - 20
	}
	passed := 0
	for range 200000 {
		s, n, what := open(near(), near()), r.Intn(16)+1, r.Intn(3)
		off := []uint32{near(), s.Size - uint32(r.Intn(20)), uint32(r.Intn(20)) - s.Base}[r.Intn(3)]
		place, err := At(s, off, n, what)
		if err != api.OK {
			continue
		}
		passed++
		for i := range n {
			if at := int64(place) + int64(i); at > last || at >= whole(s) || !Within(s, uint32(at)) {
				t.Fatalf("P7.2: At(%+v, %#x, %d, %d): %#x, whose byte %d isn't the segment's", s, off, n, what, place, i)
			}
		}
		if whole(s) > 1<<32 {
			t.Fatalf("P7.2: At(%+v, %#x, %d, %d): %#x of a segment that isn't Right", s, off, n, what, place)
		}
	}
	if passed < 1000 {
		t.Errorf("the test's own picks: only %d were let through", passed)
	}
}

// What is apart has no byte that is within both.
func TestApartAndWithinAgree(t *testing.T) {
	for _, s := range segs() {
		for _, at := range edges() {
			if got := Apart(s, open(at, 1)); got != (Right(s) && !Within(s, at)) {
				t.Fatalf("P7.1: Apart(%+v, the byte at %#x): %v", s, at, got)
			}
		}
	}
}
