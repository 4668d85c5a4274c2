package bus

import (
	"bytes"
	"maps"
	"math"
	"math/rand"
	"slices"
	"testing"

	"saltern/api"
	"saltern/mem"
)

// last: the last place that memory has.
const last = math.MaxUint32

// rim: how many bytes about the ends of segments are held against the model.
const rim = 20

// code and data: a segment in which what code does may be done, and one in which what data is for may be.
func code(base, size uint32) api.Seg { return api.Seg{Base: base, Size: size, X: true} }
func data(base, size uint32) api.Seg { return api.Seg{Base: base, Size: size, R: true, W: true} }

// model: what a bus should be: memory byte by byte, its places as whole numbers.
type model struct {
	bytes      map[int64]byte
	code, data api.Seg
}

// reach answers where n bytes of a segment lie, if they all do, and all lie in memory.
func reach(s api.Seg, off uint32, n int, may bool) (int64, api.Errno) {
	if !may {
		return 0, api.ErrMay
	}
	if int64(off)+int64(n) > int64(s.Size) || int64(s.Base)+int64(s.Size) > 1<<32 {
		return 0, api.ErrSeg
	}
	return int64(s.Base) + int64(off), api.OK
}

// bytesOf answers how many bytes a size stands for.
func bytesOf(size int) int {
	if size != 1 && size != 2 && size != 8 {
		return 4
	}
	return size
}

func (x *model) fetch(ip uint32, n int) []byte {
	var all []byte
	for i := 0; i < n && i < 15; i++ {
		at, err := reach(x.code, ip, i+1, x.code.X)
		if err != api.OK {
			break
		}
		all = append(all, x.bytes[at+int64(i)])
	}
	return all
}

func (x *model) load(off uint32, size int) (uint64, api.Errno) {
	at, err := reach(x.data, off, bytesOf(size), x.data.R)
	v := uint64(0)
	for i := int64(bytesOf(size)) - 1; i >= 0 && err == api.OK; i-- {
		v = v*256 + uint64(x.bytes[at+i])
	}
	return v, err
}

func (x *model) store(off uint32, size int, v uint64) api.Errno {
	at, err := reach(x.data, off, bytesOf(size), x.data.W)
	for i := range int64(bytesOf(size)) {
		if err == api.OK {
			x.bytes[at+i] = byte(v % 256)
			v /= 256
		}
	}
	return err
}

func (x *model) grow(size uint32) bool {
	if size < x.data.Size || int64(x.data.Base)+int64(size) > 1<<32 {
		return false
	}
	x.data.Size = size
	return true
}

func (x *model) clone() *model {
	return &model{bytes: maps.Clone(x.bytes), code: x.code, data: x.data}
}

// rims: the places about the first bytes and the last ones of both segments of a model, and about both ends of memory.
func (x *model) rims() []int64 {
	ends := []int64{0, 1 << 32}
	for _, s := range []api.Seg{x.code, x.data} {
		ends = append(ends, int64(s.Base), int64(s.Base)+int64(s.Size), int64(s.Base+s.Size))
	}
	var all []int64
	for _, end := range ends {
		for at := max(end-rim, 0); at < min(end+rim, 1<<32); at++ {
			all = append(all, at)
		}
	}
	slices.Sort(all)
	return slices.Compact(all)
}

// made answers a bus of two segments, its model, and the memory that was handed in, of which no byte about the ends is nought.
func made(code, data api.Seg) (*Bus, *model, *mem.Memory) {
	m, x := mem.New(), &model{bytes: map[int64]byte{}, code: code, data: data}
	for _, at := range x.rims() {
		b := byte(at%251) + 2
		m.Set(uint32(at), b)
		x.bytes[at] = b
	}
	return New(m, code, data), x, m
}

// check holds segments and bytes of a bus against its model.
func check(t *testing.T, b *Bus, x *model) {
	t.Helper()
	if c, d := b.Segs(); c != x.code || d != x.data {
		t.Fatalf("P8.1: Segs: %+v, %+v, not %+v, %+v", c, d, x.code, x.data)
	}
	for _, at := range x.rims() {
		if got := b.Memory().Get(uint32(at)); got != x.bytes[at] {
			t.Fatalf("P8.2: the byte at %#x is %d, not %d, of segments %+v, %+v", at, got, x.bytes[at], x.code, x.data)
		}
	}
}

// checkAll holds every byte that memory ever had, and the pages where bytes were set, against the model.
func checkAll(t *testing.T, b *Bus, x *model) {
	t.Helper()
	check(t, b, x)
	var pages []uint32
	for at := range x.bytes {
		pages = append(pages, uint32(at)/api.Page*api.Page)
	}
	slices.Sort(pages)
	pages = slices.Compact(pages)
	if got := b.Memory().Pages(); !slices.Equal(got, pages) {
		t.Fatalf("P8.2: pages %#x, not %#x, of segments %+v, %+v", got, pages, x.code, x.data)
	}
	for _, begin := range pages {
		for i, got := range b.Memory().Read(begin, api.Page) {
			if at := int64(begin) + int64(i); got != x.bytes[at] {
				t.Fatalf("P8.2: the byte at %#x is %d, not %d, of segments %+v, %+v", at, got, x.bytes[at], x.code, x.data)
			}
		}
	}
}

// The four calls, each held against the model.
func fetch(t *testing.T, b *Bus, x *model, ip uint32, n int) {
	t.Helper()
	if got, want := b.Fetch(ip, n), x.fetch(ip, n); !bytes.Equal(got, want) {
		t.Fatalf("P8.1: Fetch(%#x, %d) of %+v: %v, not %v", ip, n, x.code, got, want)
	}
}

func load(t *testing.T, b *Bus, x *model, off uint32, size int) {
	t.Helper()
	v, err := b.Load(off, size)
	if want, wantErr := x.load(off, size); v != want || err != wantErr {
		t.Fatalf("P8.1: Load(%#x, %d) of %+v: %#x, %d, not %#x, %d", off, size, x.data, v, err, want, wantErr)
	}
}

func store(t *testing.T, b *Bus, x *model, off uint32, size int, v uint64) {
	t.Helper()
	if got, want := b.Store(off, size, v), x.store(off, size, v); got != want {
		t.Fatalf("P8.1: Store(%#x, %d, %#x) of %+v: %d, not %d", off, size, v, x.data, got, want)
	}
}

func grow(t *testing.T, b *Bus, x *model, size uint32) {
	t.Helper()
	before := x.data
	if got, want := b.Grow(size), x.grow(size); got != want {
		t.Fatalf("P8.1: Grow(%#x) of %+v: %v", size, before, got)
	}
}

// pairs: code and data: apart, touching, in one another, at memory's ends, empty, shut, and not Right.
func pairs() [][2]api.Seg {
	all := [][2]api.Seg{
		{code(api.CodeAt, 2*api.Start), data(api.DataAt, 100)},
		{code(100, 40), data(140, 30)}, {code(140, 30), data(100, 40)}, {code(100, 40), data(110, 20)}, {code(110, 20), data(100, 40)},
		{code(0, 20), data(last-19, 20)}, {code(last-19, 20), data(0, 20)}, {code(last-15, 16), data(last-7, 8)}, {code(last, 1), data(last, 1)},
		{code(0, last), data(0, last)}, {code(1, last), data(1, last)}, {code(2, last), data(2, last)},
		{code(last-19, 21), data(last-19, 21)}, {code(last, 2), data(last, 2)}, {code(last, last), data(last, last)},
		{code(100, 0), data(100, 0)}, {code(last, 0), data(last, 0)}, {code(0, 0), data(0, 0)},
		{code(api.Page-3, 7), data(2*api.Page-9, 18)}, {code(1<<31-9, 18), data(1<<31, 1<<31)}, {code(100, 3), data(200, 3)}, {code(100, 15), data(200, 7)},
	}
	for rights := range 8 {
		s := api.Seg{Base: 300, Size: 30, R: rights&1 != 0, W: rights&2 != 0, X: rights&4 != 0}
		away := s
		away.Base = 400
		all = append(all, [2]api.Seg{s, data(500, 10)}, [2]api.Seg{code(500, 10), s}, [2]api.Seg{s, away})
	}
	return all
}

// sizes: those that a number has, and others, some of which would pass for one by some of their bits.
func sizes() []int {
	all := []int{1, 2, 4, 8, 0, 3, 5, 6, 7, 9, 10, 12, 15, 16, 32, 64, -1, -2, -4, -8, math.MinInt, math.MaxInt, math.MinInt32, math.MaxInt32}
	for _, n := range []int{1, 2, 8} {
		all = append(all, n+1<<8, n-1<<8, n+1<<32, n-1<<32, n+math.MinInt)
	}
	return all
}

// offs: places in a segment: its first ones, about its end, and ones whose sum with Base or with a size would go round.
func offs(s api.Seg) []uint32 {
	all := []uint32{0, 1, 2, 3, 4, 5, 8, 9, 1 << 16, 1 << 31, 1<<31 - 1}
	for i := range uint32(18) {
		all = append(all, s.Size-i, s.Size+i, last-i, -s.Base-i, -s.Base+i)
	}
	return all
}

func TestByHand(t *testing.T) {
	b := New(mem.New(), code(0, 4), data(16, 12))
	if err := b.Store(0, 4, 258); err != api.OK {
		t.Fatalf("P8.1: Store(0, 4, 258): %d", err)
	}
	for _, y := range []struct {
		off  uint32
		size int
		v    uint64
		err  api.Errno
	}{
		{0, 1, 2, api.OK}, {1, 1, 1, api.OK}, {2, 1, 0, api.OK}, {0, 2, 258, api.OK}, {1, 2, 1, api.OK}, {0, 4, 258, api.OK}, {0, 8, 258, api.OK}, {4, 8, 0, api.OK}, {5, 8, 0, api.ErrSeg},
		{11, 1, 0, api.OK}, {12, 1, 0, api.ErrSeg}, {0, 3, 258, api.OK}, {0, 16, 258, api.OK}, {9, 3, 0, api.ErrSeg}, {last, 1, 0, api.ErrSeg}, {last - 3, 4, 0, api.ErrSeg}, {last - 7, 8, 0, api.ErrSeg},
	} {
		if v, err := b.Load(y.off, y.size); v != y.v || err != y.err {
			t.Errorf("P8.1: Load(%#x, %d): %#x, %d, not %#x, %d", y.off, y.size, v, err, y.v, y.err)
		}
	}
	if got := b.Memory().Read(14, 8); !bytes.Equal(got, []byte{0, 0, 2, 1, 0, 0, 0, 0}) {
		t.Errorf("P8.1: Store(0, 4, 258): memory has %v", got)
	}
}

func TestLowestByteFirst(t *testing.T) {
	const v = 0x8877665544332211
	row := []byte{0x11, 0x22, 0x33, 0x44, 0x55, 0x66, 0x77, 0x88}
	for _, n := range []int{1, 2, 4, 8} {
		b, _, m := made(code(0, 4), data(100, 10))
		before := m.Read(95, 20)
		if err := b.Store(1, n, v); err != api.OK {
			t.Fatalf("P8.1: Store(1, %d): %d", n, err)
		}
		want := slices.Concat(before[:6], row[:n], before[6+n:])
		if got := m.Read(95, 20); !bytes.Equal(got, want) {
			t.Errorf("P8.1: Store(1, %d, %#x): memory has %x, not %x", n, uint64(v), got, want)
		}
		if got, err := b.Load(1, n); got != v<<(64-8*n)>>(64-8*n) || err != api.OK {
			t.Errorf("P8.1: Load(1, %d): %#x, %d", n, got, err)
		}
	}
	b := New(nil, code(0, 4), data(100, 10))
	if err := b.Store(0, 8, math.MaxUint64); err != api.OK {
		t.Fatalf("P8.1: Store(0, 8): %d", err)
	}
	for _, y := range []struct {
		size int
		v    uint64
	}{{1, 0xff}, {2, 0xffff}, {4, 0xffffffff}, {8, math.MaxUint64}, {5, 0xffffffff}} {
		if got, err := b.Load(0, y.size); got != y.v || err != api.OK {
			t.Errorf("P8.1: Load(0, %d) of bits that are all set: %#x, %d", y.size, got, err)
		}
	}
}

func TestAtTheLastBytes(t *testing.T) {
	for _, base := range []uint32{0, 1, 77, api.Page - 50, 1 << 31, last - 99} {
		for _, n := range []uint32{1, 2, 4, 8} {
			b, x, _ := made(code(0, 4), data(base, 100))
			for off := 100 - n - 1; off < 102; off++ {
				v, err := b.Load(off, int(n))
				if within := off <= 100-n; (err == api.OK) != within || (v != 0) != within {
					t.Fatalf("P8.1: Load(%d, %d) of 100 bytes at %#x: %#x, %d", off, n, base, v, err)
				}
				load(t, b, x, off, int(n))
				store(t, b, x, off, int(n), 0x1122334455667788)
				check(t, b, x)
			}
		}
	}
}

// Each call, at all places, with all sizes and counts, of all segments: against the model, memory with it.
func TestCallsAgainstTheModel(t *testing.T) {
	for _, p := range pairs() {
		b, x, _ := made(p[0], p[1])
		for _, off := range offs(p[1]) {
			for i, size := range sizes() {
				load(t, b, x, off, size)
				store(t, b, x, off, size, 0x9182736455463728+uint64(i)<<40+uint64(off)*uint64(i+3))
				load(t, b, x, off, size)
			}
			check(t, b, x)
		}
		for _, ip := range offs(p[0]) {
			for n := -2; n < 19; n++ {
				fetch(t, b, x, ip, n)
			}
		}
		checkAll(t, b, x)
	}
}

func TestSizesThatNoNumberHas(t *testing.T) {
	for _, size := range sizes() {
		b, x, _ := made(code(0, 4), data(100, 20))
		n := bytesOf(size)
		store(t, b, x, uint32(20-n), size, 0x8182838485868788)
		check(t, b, x)
		store(t, b, x, uint32(20-n+1), size, 0)
		load(t, b, x, uint32(20-n), size)
		load(t, b, x, uint32(20-n+1), size)
		check(t, b, x)
	}
}

func TestStoreThatErrsChangesNothing(t *testing.T) {
	shut := api.Seg{Base: 100, Size: 20, R: true, X: true}
	for _, s := range []api.Seg{data(100, 20), data(last-19, 20), data(last-19, 21), data(0, 0), data(2, last), shut} {
		for off := uint32(13); off < 40; off++ {
			b, x, _ := made(code(100, 20), s)
			if err := b.Store(off, 8, 0); err == api.OK {
				t.Fatalf("P8.1: Store(%d, 8) of %+v: no error", off, s)
			}
			checkAll(t, b, x)
		}
	}
	b := New(nil, code(0, 0), data(last-19, 20))
	if err := b.Store(20, 1, 0); err != api.ErrSeg || len(b.Memory().Pages()) != 0 {
		t.Errorf("P8.1: Store(20, 1) of 20 bytes: %d; pages %#x", err, b.Memory().Pages())
	}
}

func TestErrMayComesFirst(t *testing.T) {
	for rights := range 8 {
		for _, size := range []uint32{0, 8, last} {
			s := api.Seg{Base: 100, Size: size, R: rights&1 != 0, W: rights&2 != 0, X: rights&4 != 0}
			b := New(nil, code(0, 4), s)
			for _, off := range []uint32{4, 5, 8, last} {
				beyond := size == last || size < 8 || off > 4
				_, err := b.Load(off, 4)
				wantErr(t, "Load", s, off, err, s.R, beyond)
				wantErr(t, "Store", s, off, b.Store(off, 4, 7), s.W, beyond)
			}
		}
	}
}

// wantErr holds an error against what may be done and whether the bytes are beyond the end.
func wantErr(t *testing.T, told string, s api.Seg, off uint32, err api.Errno, may, beyond bool) {
	t.Helper()
	want := api.OK
	if beyond {
		want = api.ErrSeg
	}
	if !may {
		want = api.ErrMay
	}
	if err != want {
		t.Errorf("P8.1: %s(%#x, 4) of %+v: %d, not %d", told, off, s, err, want)
	}
}

func TestFetchByHand(t *testing.T) {
	m := mem.New()
	m.Write(95, []byte{250, 251, 252, 253, 254, 1, 2, 3, 4, 5, 6, 7, 8, 9, 10, 11, 12, 13, 14, 15, 16, 17, 18, 19, 20, 99, 98})
	b := New(m, code(100, 20), data(0, 4))
	for _, y := range []struct {
		ip   uint32
		n    int
		want []byte
	}{
		{0, 0, nil}, {0, 1, []byte{1}}, {0, 3, []byte{1, 2, 3}}, {5, 15, []byte{6, 7, 8, 9, 10, 11, 12, 13, 14, 15, 16, 17, 18, 19, 20}},
		{0, 15, []byte{1, 2, 3, 4, 5, 6, 7, 8, 9, 10, 11, 12, 13, 14, 15}}, {0, 16, []byte{1, 2, 3, 4, 5, 6, 7, 8, 9, 10, 11, 12, 13, 14, 15}},
		{0, math.MaxInt, []byte{1, 2, 3, 4, 5, 6, 7, 8, 9, 10, 11, 12, 13, 14, 15}}, {0, 1 << 32, []byte{1, 2, 3, 4, 5, 6, 7, 8, 9, 10, 11, 12, 13, 14, 15}},
		{0, 1<<32 + 1, []byte{1, 2, 3, 4, 5, 6, 7, 8, 9, 10, 11, 12, 13, 14, 15}}, {0, 257, []byte{1, 2, 3, 4, 5, 6, 7, 8, 9, 10, 11, 12, 13, 14, 15}},
		{0, -1, nil}, {0, math.MinInt, nil}, {0, -1<<32 + 3, nil}, {0, -1<<31 + 3, nil}, {19, 0, nil}, {19, -5, nil},
		{6, 15, []byte{7, 8, 9, 10, 11, 12, 13, 14, 15, 16, 17, 18, 19, 20}}, {18, 15, []byte{19, 20}}, {18, 2, []byte{19, 20}}, {18, 1, []byte{19}}, {18, math.MaxInt, []byte{19, 20}},
		{19, 1, []byte{20}}, {19, 2, []byte{20}}, {19, 15, []byte{20}}, {20, 0, nil}, {20, 1, nil}, {20, 15, nil}, {21, 15, nil}, {1 << 31, 15, nil},
		{last, 1, nil}, {last, 15, nil}, {last - 4, 15, nil}, {last - 14, 15, nil}, {last - 99, 15, nil}, {last - 98, 1, nil},
	} {
		if got := b.Fetch(y.ip, y.n); !bytes.Equal(got, y.want) {
			t.Errorf("P8.1: Fetch(%#x, %d): %v, not %v", y.ip, y.n, got, y.want)
		}
	}
}

func TestFetchOfWhatMayNotBeRun(t *testing.T) {
	open := api.Seg{Base: 100, Size: 20, R: true, W: true, X: true}
	for rights := range 8 {
		s := api.Seg{Base: 100, Size: 20, R: rights&1 != 0, W: rights&2 != 0, X: rights&4 != 0}
		for _, other := range []api.Seg{data(100, 20), open} {
			b, _, m := made(s, other)
			for _, n := range []int{0, 1, 15} {
				want := m.Read(100, n)
				if !s.X {
					want = nil
				}
				if got := b.Fetch(0, n); !bytes.Equal(got, want) {
					t.Errorf("P8.1: Fetch(0, %d) of %+v: %v, not %v", n, s, got, want)
				}
			}
		}
	}
	for _, s := range []api.Seg{code(last-19, 21), code(last, 2), code(2, last), code(last, last)} {
		b, _, _ := made(s, data(0, 4))
		for _, n := range []int{0, 1, 15} {
			if got := b.Fetch(0, n); len(got) != 0 {
				t.Errorf("P8.1: Fetch(0, %d) of %+v, which isn't Right: %v", n, s, got)
			}
		}
	}
}

func TestFetchAnswersNewMemory(t *testing.T) {
	b, x, _ := made(code(100, 20), data(100, 20))
	got := b.Fetch(3, 5)
	clear(got[:cap(got)])
	check(t, b, x)
	fetch(t, b, x, 3, 5)
	kept := b.Fetch(3, 5)
	want := slices.Clone(kept)
	store(t, b, x, 3, 4, 0)
	if !bytes.Equal(kept, want) {
		t.Errorf("P8.1: a Store changed what Fetch had answered: %v, not %v", kept, want)
	}
	fetch(t, b, x, 3, 5)
}

func TestGrowByHand(t *testing.T) {
	for _, y := range []struct {
		base, size, asked uint32
		ok                bool
	}{
		{100, 8, 8, true}, {100, 8, 9, true}, {100, 8, 1 << 31, true}, {100, 8, 7, false}, {100, 8, 0, false}, {100, 0, 0, true}, {100, 0, 1, true},
		{100, 8, last - 99, true}, {100, 8, last - 98, false}, {100, 8, last, false}, {api.DataAt, 8, last - api.DataAt + 1, true}, {api.DataAt, 8, last - api.DataAt + 2, false},
		{last, 0, 0, true}, {last, 0, 1, true}, {last, 0, 2, false}, {last, 1, 1, true}, {last, 1, 2, false}, {last - 19, 20, 20, true}, {last - 19, 20, 21, false}, {last - 19, 20, 19, false},
		{0, 0, last, true}, {0, last, last, true}, {0, last, last - 1, false}, {1, 5, last, true}, {2, 5, last, false}, {2, 5, last - 1, true}, {1 << 31, 0, 1 << 31, true}, {1 << 31, 0, 1<<31 + 1, false},
		// Segments that aren't Right, and wouldn't be, or would be by getting less.
		{2, last, last, false}, {last, 2, 2, false}, {last, 2, 3, false}, {last, 2, 1, false}, {2, last, 5, false}, {last, last, last, false},
	} {
		b, x, _ := made(code(100, 8), data(y.base, y.size))
		if got := b.Grow(y.asked); got != y.ok {
			t.Errorf("P8.1: Grow(%#x) of %#x bytes at %#x: %v", y.asked, y.size, y.base, got)
		}
		if y.ok {
			x.data.Size = y.asked
		}
		check(t, b, x)
	}
}

// What was grown has its new bytes as memory had them; what wasn't is as it was.
func TestWhatGrowChanges(t *testing.T) {
	for rights := range 8 {
		s := api.Seg{Base: last - 29, Size: 10, R: rights&1 != 0, W: rights&2 != 0, X: rights&4 != 0}
		for _, asked := range []uint32{10, 9, 31, 17, 10, 12, 31, 30, last, 29, 31, 30} {
			b, x, _ := made(code(0, 9), s)
			grow(t, b, x, asked)
			check(t, b, x)
			for _, off := range []uint32{2, 3, 9, 10, 12, 13, 16, 17, 22, 23, 29, 30} {
				load(t, b, x, off, 8)
				store(t, b, x, off, 1, 0)
				load(t, b, x, off, 1)
				fetch(t, b, x, off, 15)
			}
			check(t, b, x)
		}
	}
}

func TestGrowAgainstTheModel(t *testing.T) {
	for _, p := range pairs() {
		for _, by := range []uint32{0, 1, 2, 19, last, last - 1, 1 << 31} {
			for _, asked := range []uint32{p[1].Size + by, -p[1].Base + by, by} {
				b, x, _ := made(p[0], p[1])
				grow(t, b, x, asked)
				check(t, b, x)
			}
		}
	}
}

func TestMemoryNil(t *testing.T) {
	one, other := New(nil, code(0, 9), data(100, 9)), New(nil, code(0, 9), data(100, 9))
	if one.Memory() == nil || len(one.Memory().Pages()) != 0 {
		t.Fatalf("P8.1: New(nil, ..): memory %v", one.Memory())
	}
	if v, err := one.Load(0, 8); v != 0 || err != api.OK {
		t.Errorf("P8.1: Load(0, 8) of a new memory: %#x, %d", v, err)
	}
	if got := one.Fetch(0, 15); !bytes.Equal(got, make([]byte, 9)) {
		t.Errorf("P8.1: Fetch(0, 15) of a new memory: %v", got)
	}
	if got := one.Memory().Pages(); len(got) != 0 {
		t.Errorf("P8.1: Load and Fetch made pages %#x", got)
	}
	if err := one.Store(1, 1, 77); err != api.OK || one.Memory().Get(101) != 77 {
		t.Errorf("P8.1: Store(1, 1, 77): %d; memory has %d", err, one.Memory().Get(101))
	}
	if got := other.Memory().Get(101); got != 0 || one.Memory() == other.Memory() {
		t.Errorf("P8.1: two buses of a memory nil share one")
	}
}

func TestTheMemoryHandedIn(t *testing.T) {
	m := mem.New()
	b := New(m, code(100, 10), data(100, 10))
	again := New(m, code(0, 4), data(104, 2))
	if b.Memory() != m || again.Memory() != m {
		t.Error("P8.1: Memory isn't the one that was handed in")
	}
	m.Write(104, []byte{7, 8})
	if v, err := b.Load(4, 2); v != 0x807 || err != api.OK {
		t.Errorf("P8.1: Load(4, 2) behind a Write to memory: %#x, %d", v, err)
	}
	if got := b.Fetch(4, 2); !bytes.Equal(got, []byte{7, 8}) {
		t.Errorf("P8.1: Fetch(4, 2) behind a Write to memory: %v", got)
	}
	if err := b.Store(4, 2, 0x605); err != api.OK || !bytes.Equal(m.Read(103, 4), []byte{0, 5, 6, 0}) {
		t.Errorf("P8.1: Store(4, 2, 0x605): %d; memory has %v", err, m.Read(103, 4))
	}
	if v, err := again.Load(0, 2); v != 0x605 || err != api.OK {
		t.Errorf("P8.1: Load(0, 2) of the memory's other bus: %#x, %d", v, err)
	}
}

func TestCloneGoesItsOwnWay(t *testing.T) {
	b, x, m := made(code(100, 20), data(110, 20))
	c, y := b.Clone(), x.clone()
	if c == b || c.Memory() == m {
		t.Fatal("P8.1: a clone has the bus's own memory")
	}
	check(t, c, y)
	if !slices.Equal(c.Memory().Pages(), m.Pages()) {
		t.Errorf("P8.1: a clone's pages: %#x, not %#x", c.Memory().Pages(), m.Pages())
	}
	store(t, b, x, 3, 4, 0x11111111)
	store(t, c, y, 3, 2, 0x2222)
	grow(t, b, x, 25)
	grow(t, c, y, 22)
	check(t, b, x)
	check(t, c, y)
	m.Set(112, 99)
	x.bytes[112] = 99
	c.Memory().Set(113, 98)
	y.bytes[113] = 98
	check(t, b, x)
	check(t, c, y)
	fetch(t, b, x, 10, 15)
	fetch(t, c, y, 10, 15)
	d, z := c.Clone(), y.clone()
	store(t, d, z, 21, 1, 5)
	grow(t, d, z, 1<<31)
	check(t, d, z)
	check(t, c, y)
}

// Whatever is called in whatever order: no byte outside of the data segment changes, and none outside of segments is told.
func TestNoOtherWayToMemory(t *testing.T) {
	r := rand.New(rand.NewSource(8))
	all := sizes()
	for round := range 4 {
		for _, p := range pairs() {
			b, x, _ := made(p[0], p[1])
			for range 60 {
				within := offs(x.data)
				off, size := within[r.Intn(len(within))], all[r.Intn(len(all))]
				switch r.Intn(round + 4) {
				case 0:
					load(t, b, x, off, size)
				case 1:
					fetch(t, b, x, offs(x.code)[r.Intn(40)], r.Intn(20)-2)
				case 2:
					grow(t, b, x, x.data.Size+uint32(r.Intn(4))-1)
				default:
					store(t, b, x, off, size, r.Uint64())
				}
			}
			checkAll(t, b, x)
		}
	}
}
