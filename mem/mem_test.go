package mem

import (
	"bytes"
	"math"
	"math/rand"
	"runtime"
	"slices"
	"testing"

	"saltern/api"
)

// last: the last place that a memory has.
const last = math.MaxUint32

// places: where rows are tried: about the ends of pages, of memory, and of numbers that look like an end.
func places() []uint32 {
	var all []uint32
	for _, edge := range []uint32{0, api.Page, 2 * api.Page, 1 << 16, 1 << 20, api.CodeAt, api.DataAt, 1 << 31, last - api.Page + 1} {
		all = append(all, edge-2, edge-1, edge, edge+1, edge+2, edge+api.Page/2)
	}
	return all
}

// row answers n bytes, none of them nought, that begin unlike for unlike seeds.
func row(n, seed int) []byte {
	b := make([]byte, n)
	for i := range b {
		b[i] = byte((i*7+seed*13)%255) + 1
	}
	return b
}

// model: a memory of single bytes, by their places, that was told what a Memory was told.
type model map[uint32]byte

func (x model) write(at uint32, b []byte) {
	for i, v := range b {
		x[at+uint32(i)] = v
	}
}

func (x model) read(at uint32, n int) []byte {
	b := make([]byte, n)
	for i := range b {
		b[i] = x[at+uint32(i)]
	}
	return b
}

func (x model) pages() []uint32 {
	var all []uint32
	for at := range x {
		all = append(all, at/api.Page*api.Page)
	}
	slices.Sort(all)
	return slices.Compact(all)
}

// check holds a memory against a model, byte by byte, about each place.
func check(t *testing.T, m *Memory, x model, at []uint32) {
	t.Helper()
	for _, at := range at {
		if got, want := m.Read(at-3, 8), x.read(at-3, 8); !bytes.Equal(got, want) {
			t.Fatalf("P6.1: Read(%#x, 8): %v, not %v", at-3, got, want)
		}
		if got := m.Get(at); got != x[at] {
			t.Fatalf("P6.1: Get(%#x): %d, not %d", at, got, x[at])
		}
	}
	if got := m.Pages(); !slices.Equal(got, x.pages()) {
		t.Fatalf("P6.1: Pages: %#x, not %#x", got, x.pages())
	}
}

func TestNoughtsAtFirst(t *testing.T) {
	m := New()
	check(t, m, model{}, places())
	if got := m.Read(0, 1<<20); !bytes.Equal(got, make([]byte, 1<<20)) {
		t.Errorf("P6.1: Read(0, 2^20) of a new memory: %d bytes, not all 0", len(got))
	}
	if got := m.Pages(); len(got) != 0 {
		t.Errorf("P6.1: Pages of a new memory: %v", got)
	}
}

func TestSetAndGet(t *testing.T) {
	m, x := New(), model{}
	for i, at := range places() {
		b := byte(i + 1)
		m.Set(at, b)
		x[at] = b
		check(t, m, x, places())
	}
	for _, b := range []byte{1, 127, 128, 255, 0} {
		m.Set(last, b)
		if got := m.Get(last); got != b {
			t.Errorf("P6.1: Set(last, %d), Get(last): %d", b, got)
		}
	}
	if got := m.Get(0); got != x[0] {
		t.Errorf("P6.1: Set(last, ..) changed Get(0) to %d", got)
	}
}

func TestWriteAndRead(t *testing.T) {
	for i, at := range places() {
		for _, n := range []int{0, 1, 2, 3, api.Page - 1, api.Page, api.Page + 1, 3*api.Page + 5} {
			m, x := New(), model{}
			b := row(n, i)
			m.Write(at, b)
			x.write(at, b)
			if got := m.Read(at, n); !bytes.Equal(got, b) {
				t.Fatalf("P6.1: Write, Read(%#x, %d): %d bytes, others", at, n, len(got))
			}
			check(t, m, x, append(places(), at+uint32(n)))
		}
	}
}

func TestBehindTheLastPlaceComesTheFirst(t *testing.T) {
	m := New()
	m.Write(last-1, []byte{1, 2, 3, 4})
	for i, at := range []uint32{last - 1, last, 0, 1} {
		if got := m.Get(at); got != byte(i+1) {
			t.Errorf("P6.1: Get(%#x): %d, not %d", at, got, i+1)
		}
	}
	if got := m.Read(last-2, 6); !bytes.Equal(got, []byte{0, 1, 2, 3, 4, 0}) {
		t.Errorf("P6.1: Read over the last place: %v", got)
	}
	if got := m.Pages(); !slices.Equal(got, []uint32{0, last - api.Page + 1}) {
		t.Errorf("P6.1: Pages behind a row over the last place: %#x", got)
	}
}

func TestWriteOverWhatIsThere(t *testing.T) {
	m := New()
	m.Write(api.Page-4, []byte{1, 2, 3, 4, 5, 6, 7, 8})
	m.Write(api.Page-2, []byte{9, 0, 0, 9})
	if got := m.Read(api.Page-5, 10); !bytes.Equal(got, []byte{0, 1, 2, 9, 0, 0, 9, 7, 8, 0}) {
		t.Errorf("P6.1: a row within a row: %v", got)
	}
}

func TestReadTakesTheNearestCount(t *testing.T) {
	m := New()
	m.Write(5, row(1<<20+9, 1))
	for _, x := range []struct{ n, want int }{
		{0, 0}, {-1, 0}, {-1 << 20, 0}, {math.MinInt, 0}, {math.MinInt32, 0}, {-1<<32 + 1, 0},
		{1<<20 - 1, 1<<20 - 1}, {1 << 20, 1 << 20}, {1<<20 + 1, 1 << 20}, {1 << 31, 1 << 20}, {1 << 32, 1 << 20}, {1<<32 + 1, 1 << 20}, {math.MaxInt, 1 << 20},
	} {
		if got := m.Read(5, x.n); !bytes.Equal(got, row(x.want, 1)) {
			t.Errorf("P6.1: Read(5, %d): %d bytes, not %d, or others", x.n, len(got), x.want)
		}
	}
}

func TestWriteTakesAnyCount(t *testing.T) {
	m := New()
	b := row(3<<20+7, 2)
	m.Write(last-api.Page, b)
	for _, from := range []int{0, api.Page + 1, 1 << 20, 2<<20 + 3, 3<<20 - 4} {
		if got := m.Read(uint32(last-api.Page+from), 11); !bytes.Equal(got, b[from:from+11]) {
			t.Errorf("P6.1: a long row from its byte %d on: %v", from, got)
		}
	}
	if got := len(m.Pages()); got != 3<<20/api.Page+2 {
		t.Errorf("P6.1: a long row's pages: %d", got)
	}
}

func TestPages(t *testing.T) {
	for _, x := range []struct {
		told string
		tell func(m *Memory)
		want []uint32
	}{
		{"Set(5, 1)", func(m *Memory) { m.Set(5, 1) }, []uint32{0}},
		{"Set(5, 0)", func(m *Memory) { m.Set(5, 0) }, []uint32{0}},
		{"the last place set to 0", func(m *Memory) { m.Set(last, 0) }, []uint32{last - api.Page + 1}},
		{"a byte set and taken back", func(m *Memory) { m.Set(api.Page, 7); m.Set(api.Page, 0) }, []uint32{api.Page}},
		{"noughts over two pages", func(m *Memory) { m.Write(2*api.Page-1, []byte{0, 0}) }, []uint32{api.Page, 2 * api.Page}},
		{"a row up to a page's end", func(m *Memory) { m.Write(api.Page, row(api.Page, 1)) }, []uint32{api.Page}},
		{"a row of one byte more", func(m *Memory) { m.Write(api.Page, row(api.Page+1, 1)) }, []uint32{api.Page, 2 * api.Page}},
		{"no bytes", func(m *Memory) { m.Write(5, nil); m.Write(5, []byte{}) }, nil},
		{"no bytes at the last place", func(m *Memory) { m.Write(last, nil) }, nil},
		{"reading", func(m *Memory) { m.Get(5); m.Read(last-9, 1<<20); m.Clone(); m.Pages() }, nil},
		{"falling places", func(m *Memory) {
			for at := uint32(20); at > 0; at-- {
				m.Set(at<<27, 1)
			}
		}, nil},
	} {
		m := New()
		x.tell(m)
		if x.told == "falling places" {
			for at := uint32(1); at <= 20; at++ {
				x.want = append(x.want, at<<27)
			}
		}
		if got := m.Pages(); !slices.Equal(got, x.want) {
			t.Errorf("P6.1: Pages behind %s: %#x, not %#x", x.told, got, x.want)
		}
	}
}

func TestCloneGoesItsOwnWay(t *testing.T) {
	m, x := New(), model{}
	for i, at := range places() {
		m.Write(at, row(5, i))
		x.write(at, row(5, i))
	}
	c := m.Clone()
	check(t, m, x, places())
	check(t, c, x, places())
	mine, its := model{}, model{}
	for at, b := range x {
		mine[at], its[at] = b, b
	}
	m.Set(1, 200)
	m.Write(0x70000000, []byte{1})
	mine[1], mine[0x70000000] = 200, 1
	c.Set(2, 201)
	c.Write(0x60000fff, []byte{2, 0})
	its.write(2, []byte{201})
	its.write(0x60000fff, []byte{2, 0})
	all := append(places(), 0x70000000, 0x60000fff)
	check(t, m, mine, all)
	check(t, c, its, all)
	if empty := New().Clone(); len(empty.Pages()) != 0 || empty.Get(0) != 0 {
		t.Errorf("P6.1: a new memory's clone: %v", empty.Pages())
	}
}

func TestNothingIsTiedToMemory(t *testing.T) {
	m := New()
	given := append(make([]byte, 0, 100), row(10, 1)...)
	m.Write(api.Page-5, given)
	if !bytes.Equal(given, row(10, 1)) || !bytes.Equal(given[:100][10:], make([]byte, 90)) {
		t.Errorf("P6.1: Write changed what it was handed: %v", given[:100])
	}
	clear(given[:100])
	read := m.Read(api.Page-5, 10)
	if !bytes.Equal(read, row(10, 1)) {
		t.Errorf("P6.1: memory follows the bytes that it was handed: %v", read)
	}
	clear(read[:cap(read)])
	if got := m.Read(api.Page-5, 10); !bytes.Equal(got, row(10, 1)) {
		t.Errorf("P6.1: memory follows the bytes that were read: %v", got)
	}
	whole := m.Read(0, api.Page)
	m.Set(api.Page-1, 99)
	if whole[api.Page-1] == 99 {
		t.Error("P6.1: bytes that were read follow memory")
	}
	pages := m.Pages()
	clear(pages)
	if got := m.Pages(); !slices.Equal(got, []uint32{0, api.Page}) {
		t.Errorf("P6.1: memory follows the pages that it told: %v", got)
	}
}

func TestTwoMemoriesShareNothing(t *testing.T) {
	a, b := New(), New()
	a.Write(0, []byte{1, 2, 3})
	if b.Get(1) != 0 || len(b.Pages()) != 0 {
		t.Error("P6.1: a new memory has another one's bytes")
	}
}

func TestManyCallsAgainstTheModel(t *testing.T) {
	r := rand.New(rand.NewSource(6))
	m, x := New(), model{}
	all := places()
	for range 3000 {
		at := all[r.Intn(len(all))] + uint32(r.Intn(9)) - 4
		switch r.Intn(4) {
		case 0:
			b := byte(r.Intn(256))
			m.Set(at, b)
			x[at] = b
		case 1:
			b := row(r.Intn(40), r.Intn(200))
			m.Write(at, b)
			x.write(at, b)
		case 2:
			if got := m.Get(at); got != x[at] {
				t.Fatalf("P6.1: Get(%#x): %d, not %d", at, got, x[at])
			}
		case 3:
			n := r.Intn(60)
			if got := m.Read(at, n); !bytes.Equal(got, x.read(at, n)) {
				t.Fatalf("P6.1: Read(%#x, %d): %v", at, n, got)
			}
		}
	}
	check(t, m, x, all)
}

// taken answers how many bytes are made while something is done.
func taken(do func()) uint64 {
	var before, behind runtime.MemStats
	runtime.ReadMemStats(&before)
	do()
	runtime.ReadMemStats(&behind)
	return behind.TotalAlloc - before.TotalAlloc
}

func TestWhatWasNeverSetTakesNoRoom(t *testing.T) {
	m := New()
	if got := taken(func() {
		for i := range uint32(64) {
			m.Set(i<<26, 1)
		}
	}); got > 3*64*api.Page {
		t.Errorf("P6.2: 64 bytes far apart took %d bytes", got)
	}
	if got := taken(func() {
		for i := range uint32(1 << 16) {
			m.Get(i<<16 + 5*api.Page)
		}
	}); got > 1<<16 {
		t.Errorf("P6.2: getting what was never set took %d bytes", got)
	}
	if got := taken(func() { m.Read(5, 1<<20) }); got > 2<<20 {
		t.Errorf("P6.2: reading what was never set took %d bytes", got)
	}
	if got := len(m.Pages()); got != 64 {
		t.Errorf("P6.2: reading made pages: %d, not 64", got)
	}
	if got := taken(func() { New().Clone() }); got > 1<<16 {
		t.Errorf("P6.2: a new memory and its clone took %d bytes", got)
	}
}
