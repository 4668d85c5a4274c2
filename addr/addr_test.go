package addr_test

import (
	"math"
	"testing"

	"saltern/addr"
	"saltern/api"
	"saltern/bus"
	"saltern/machines"
	"saltern/mem"
	"saltern/operands"
	"saltern/regs"
	"saltern/states"
)

// last: the last place that memory has.
const last = math.MaxUint32

// sample: a number whose bytes are unlike one another and unlike those of memory.
const sample = 0xf1e2d3c4b5a69788

// open, alike, aimed: what the tests of several layers say of data.
var open, alike, aimed = machines.Open, machines.Alike, machines.Aimed

// segs: data in memory's middle and at both its ends, over a page's end, empty, not Right, and shut for each kind of doing.
func segs() []api.Seg {
	all := []api.Seg{
		open(0x800000, 24), open(0, 24), open(last-23, 24), open(api.Page-9, 18), open(1<<31-9, 18), open(100, 7), open(100, 1), open(last, 1), open(1, last),
		open(100, 0), open(0, 0), open(last, 0), open(last, 2), open(last-19, 21), open(2, last), open(last, last),
	}
	for rights := range 8 {
		all = append(all, api.Seg{Base: 300, Size: 20, R: rights&1 != 0, W: rights&2 != 0, X: rights&4 != 0})
	}
	return all
}

// made answers a bus of such data, and of code elsewhere. About all ends no byte of its memory is nought.
func made(data api.Seg) *bus.Bus {
	m := mem.New()
	for i := uint32(0); i < 80; i++ {
		for _, begin := range []uint32{data.Base - 40, data.Base + data.Size - 40, last - 39} {
			m.Set(begin+i, byte((begin+i)%119+1))
		}
	}
	m.Write(0x40000000, []byte{0xc1, 0xc2, 0xc3, 0xc4, 0xc5, 0xc6, 0xc7, 0xc8})
	return bus.New(m, api.Seg{Base: 0x40000000, Size: 40, R: true, W: true, X: true}, data)
}

// counted answers how many bytes a size stands for.
func counted(size int) int {
	if size != 1 && size != 2 && size != 8 {
		return 4
	}
	return size
}

// reach answers which error n bytes of a segment from off on make, in whole numbers.
func reach(s api.Seg, off uint32, n int, may bool) api.Errno {
	if !may {
		return api.ErrMay
	}
	if int64(off)+int64(n) > int64(s.Size) || int64(s.Base)+int64(s.Size) > 1<<32 {
		return api.ErrSeg
	}
	return api.OK
}

// load holds Load of memory at off against what it should be, and asks whether s, memory and segments are as they were.
func load(t *testing.T, b *bus.Bus, s api.State, o api.Operand, off uint32, size int) {
	t.Helper()
	_, data := b.Segs()
	was, before := s, b.Clone()
	n := counted(size)
	err, want := reach(data, off, n, data.R), uint64(0)
	for i := uint32(n); i > 0 && err == api.OK; i-- {
		want = want*256 + uint64(before.Memory().Get(data.Base+off+i-1))
	}
	if got, e := addr.Load(b, s, o, size); got != want || e != err {
		t.Errorf("P14.1: Load(%+v, %+v, %d) of %+v: %#x, %d, not %#x, %d", was, o, size, data, got, e, want, err)
	}
	if s != was || !alike(b, before) {
		t.Errorf("P14.1: Load(%+v, %+v, %d) of %+v: something changed", was, o, size, data)
	}
}

// store holds Store of memory at off against what it should be, memory and segments behind it, too, and asks whether s is as it was.
func store(t *testing.T, b *bus.Bus, s api.State, o api.Operand, off uint32, size int, v uint64) {
	t.Helper()
	_, data := b.Segs()
	was, want := s, b.Clone()
	n := counted(size)
	err, left := reach(data, off, n, data.W), v
	for i := uint32(0); i < uint32(n) && err == api.OK; i++ {
		want.Memory().Set(data.Base+off+i, byte(left%256))
		left /= 256
	}
	if got, e := addr.Store(b, s, o, size, v); got != was || e != err {
		t.Errorf("P14.1: Store(%+v, %+v, %d, %#x) of %+v: %+v, %d, not s, %d", was, o, size, v, data, got, e, err)
	}
	if s != was || !alike(b, want) {
		t.Errorf("P14.1: Store(%+v, %+v, %d, %#x) of %+v: memory isn't what it should be", was, o, size, v, data)
	}
}

// sizes: those that a number has, and others, some of which would pass for one by some of their bits.
func sizes() []int {
	return []int{1, 2, 4, 8, 0, 3, 5, 6, 7, 9, 10, 16, 32, 64, -1, -2, -4, -8, 257, 258, 264, 1<<32 + 1, 1<<32 + 2, 1<<32 + 8, math.MinInt, math.MinInt + 1, math.MaxInt, math.MinInt32, math.MaxInt32}
}

// shapes: operands of memory of every make, registers that aren't there, one register twice, Reg that is none, and scales that none has among them; all of Disp 0.
func shapes() []api.Operand {
	return []api.Operand{
		at(-1, -1, 1, 0), at(api.EAX, -1, 1, 0), at(api.EDI, -1, 1, 0), at(-1, api.EBX, 8, 0), at(api.EAX, api.EBX, 4, 0), at(api.ESP, api.EBP, 2, 0), at(api.ESI, api.ESI, 8, 0),
		at(8, -9, 4, 0), at(api.EDX, api.ESP, 1, 0), at(api.ECX, api.EBP, -3, 0),
		{Kind: api.Mem, Reg: 7, Base: api.EBX, Index: api.ECX, Scale: 2}, {Kind: api.Mem, Reg: -1, Base: api.EBX, Index: api.ECX, Scale: 2}, {Kind: api.Mem, Reg: 8, Base: -1, Index: -1, Scale: 1},
	}
}

// offs: places about a segment's first bytes and its last ones, and ones whose sum with its Base goes round to them.
func offs(data api.Seg) []uint32 {
	all := []uint32{1 << 31, data.Base, -data.Base, -data.Base - 1}
	for i := range uint32(10) {
		all = append(all, i, last-i, data.Size-i, data.Size+i)
	}
	return all
}

func TestMemoryByHand(t *testing.T) {
	s := api.State{R: [8]uint32{api.EAX: 0x10, api.EBX: 3, api.ESI: last}}
	m := mem.New()
	m.Write(0x1024, []byte{0x11, 0x22, 0x33, 0x44, 0x55, 0x66, 0x77, 0x88, 0x99})
	b := bus.New(m, api.Seg{}, open(0x1000, 0x2d))
	for _, x := range []struct {
		o    api.Operand
		size int
		want uint64
		err  api.Errno
	}{
		{at(api.EAX, api.EBX, 4, 8), 1, 0x11, api.OK}, {at(api.EAX, api.EBX, 4, 8), 2, 0x2211, api.OK}, {at(api.EAX, api.EBX, 4, 8), 4, 0x44332211, api.OK}, {at(api.EAX, api.EBX, 4, 8), 8, 0x8877665544332211, api.OK},
		{at(api.EAX, api.EBX, 4, 8), 3, 0x44332211, api.OK}, {at(api.EAX, api.EBX, 4, 8), 0, 0x44332211, api.OK}, {at(api.EAX, api.EBX, 4, 8), -8, 0x44332211, api.OK},
		{at(api.ESI, -1, 1, 0x2d), 1, 0x99, api.OK}, {at(api.ESI, -1, 1, 0x2d), 2, 0, api.ErrSeg}, {at(api.ESI, -1, 1, 0x2e), 1, 0, api.ErrSeg}, {at(api.ESI, -1, 1, 1), 1, 0, api.OK}, {at(api.ESI, -1, 1, 0), 1, 0, api.ErrSeg},
		{at(-1, -1, 1, 0x25), 8, 0x9988776655443322, api.OK}, {at(-1, -1, 1, 0x26), 8, 0, api.ErrSeg}, {at(-1, -1, 1, 0x1024), 1, 0, api.ErrSeg},
	} {
		if got, err := addr.Load(b, s, x.o, x.size); got != x.want || err != x.err {
			t.Errorf("P14.1: Load(%+v, %d): %#x, %d, not %#x, %d", x.o, x.size, got, err, x.want, x.err)
		}
	}
	for _, x := range []struct {
		size int
		want [9]byte
	}{
		{1, [9]byte{0x88, 0x22, 0x33, 0x44, 0x55, 0x66, 0x77, 0x88, 0x99}}, {2, [9]byte{0x88, 0x97, 0x33, 0x44, 0x55, 0x66, 0x77, 0x88, 0x99}},
		{4, [9]byte{0x88, 0x97, 0xa6, 0xb5, 0x55, 0x66, 0x77, 0x88, 0x99}}, {8, [9]byte{0x88, 0x97, 0xa6, 0xb5, 0xc4, 0xd3, 0xe2, 0xf1, 0x99}}, {5, [9]byte{0x88, 0x97, 0xa6, 0xb5, 0x55, 0x66, 0x77, 0x88, 0x99}},
	} {
		c := b.Clone()
		got, err := addr.Store(c, s, at(api.EAX, api.EBX, 4, 8), x.size, sample)
		if has := [9]byte(c.Memory().Read(0x1024, 9)); got != s || err != api.OK || has != x.want {
			t.Errorf("P14.1: Store of %d bytes: %+v, %d; memory has %x, not %x", x.size, got, err, has, x.want)
		}
	}
}

// Each size at each place, of all segments.
func TestMemoryAtItsEnds(t *testing.T) {
	for _, data := range segs() {
		b := made(data)
		for k, off := range offs(data) {
			s := states.All()[k%4]
			o := aimed(s, shapes()[k%len(shapes())], off)
			for _, size := range sizes() {
				load(t, b, s, o, off, size)
			}
			for _, size := range []int{1, 2, 4, 8, sizes()[k%len(sizes())]} {
				store(t, b, s, o, off, size, sample+uint64(k)<<3)
				load(t, b, s, o, off, size)
			}
		}
	}
}

// Each shape of each state, at places within and one beyond each end.
func TestMemoryByEachShape(t *testing.T) {
	for _, s := range states.All() {
		for _, shape := range shapes() {
			b := made(open(api.DataAt, 24))
			for _, off := range []uint32{0, 9, 16, 17, 24, last} {
				o := aimed(s, shape, off)
				load(t, b, s, o, off, 8)
				store(t, b, s, o, off, 8, sample)
				store(t, b, s, o, off, 1, 0)
			}
		}
	}
}

// A Disp that is low lands where base and index lead, round 2^32, too.
func TestMemoryByRegisters(t *testing.T) {
	s := states.Full()
	for r := range 8 {
		for _, by := range []uint32{0, 3, 4} {
			s.R[r] = by
			s.R[(r+1)%8] = -by
			b := made(open(api.DataAt, 24))
			load(t, b, s, at(r, -1, 1, 1), by+1, 4)
			load(t, b, s, at(-1, r, 4, 1), 4*by+1, 4)
			load(t, b, s, at(r, r, 4, 1), 5*by+1, 4)
			load(t, b, s, at((r+1)%8, r, 4, 1), 3*by+1, 4)
			load(t, b, s, at((r+1)%8, -1, 1, 2), 2-by, 1)
			store(t, b, s, at(r, (r+1)%8, 2, 4), 4-by, 2, sample)
			store(t, b, s, at((r+1)%8, r, 8, 0), 7*by, 8, sample)
		}
	}
}

// A Store that errs touches no byte, not even those within; nor does it make a page.
func TestErrorsTouchNothing(t *testing.T) {
	s := states.Full()
	for _, data := range []api.Seg{open(api.Page-4, 4), open(0, 0), open(last, 2), {Base: 8, Size: 20, R: true, X: true}} {
		b := bus.New(nil, api.Seg{}, data)
		for _, size := range sizes() {
			for _, off := range []uint32{4, 5, last} {
				state, err := addr.Store(b, s, aimed(s, at(api.EAX, api.EBX, 4, 0), off), size, sample)
				if state != s || err == api.OK || len(b.Memory().Pages()) != 0 {
					t.Errorf("P14.1: Store of %d bytes at %#x of %+v: %+v, %d; pages %#x", size, off, data, state, err, b.Memory().Pages())
				}
			}
		}
	}
}

func TestRegistersByHand(t *testing.T) {
	b := made(open(api.DataAt, 24))
	before := b.Clone()
	for _, x := range []struct {
		o    api.Operand
		want uint64
		set  func(s *api.State)
	}{
		{reg(api.EAX), 0x04030201, func(s *api.State) { s.R[api.EAX] = 0xb5a69788 }}, {reg(api.ESP), 0x84838281, func(s *api.State) { s.R[api.ESP] = 0xb5a69788 }}, {reg(api.EDI), 0xffbebdbc, func(s *api.State) { s.R[api.EDI] = 0xb5a69788 }},
		{low(0), 0x01, func(s *api.State) { s.R[api.EAX] = 0x04030288 }}, {low(4), 0x02, func(s *api.State) { s.R[api.EAX] = 0x04038801 }}, {low(7), 0x3d, func(s *api.State) { s.R[api.EBX] = 0x3f3e883c }},
		{dbl(0), 0x0807060504030201, func(s *api.State) { s.X[0] = sample }}, {dbl(7), 0xf8f7f6f5f4f3f2f1, func(s *api.State) { s.X[7] = sample }},
		{imm(0xfffffff9), 0xfffffff9, func(s *api.State) {}}, {operands.None(), 0, func(s *api.State) {}}, {reg(8), 0, func(s *api.State) {}}, {low(-1), 0, func(s *api.State) {}}, {dbl(8), 0, func(s *api.State) {}},
	} {
		for _, size := range sizes() {
			s, want := states.Full(), states.Full()
			x.set(&want)
			if got, err := addr.Load(b, s, x.o, size); got != x.want || err != api.OK {
				t.Errorf("P14.1: Load(%+v, %d): %#x, %d, not %#x", x.o, size, got, err, x.want)
			}
			if got, err := addr.Store(b, s, x.o, size, sample); got != want || err != api.OK || s != states.Full() {
				t.Errorf("P14.1: Store(%+v, %d): %+v, %d, not %+v", x.o, size, got, err, want)
			}
		}
	}
	if !alike(b, before) {
		t.Error("P14.1: what is asked of a register touched memory")
	}
}

// others: Kinds that aren't memory: all that there are, and ones that would pass for memory by some of their bits.
func others() []int {
	all := []int{api.None, api.Reg, api.Low, api.Imm, api.Dbl, api.Dbl + 1, -1, -3, 7, 8, 100}
	return append(all, operands.Like(api.Mem)...)
}

// Of what isn't memory the answers are chapter 13's, whatever is said of a place, of bytes, or of memory's rights.
func TestOthersAreChapter13s(t *testing.T) {
	buses := []*bus.Bus{made(open(api.DataAt, 24)), made(api.Seg{}), made(open(last, last)), made(open(0, last))}
	before := buses[0].Clone()
	for k, kind := range others() {
		for r := -1; r < 9; r++ {
			for _, o := range []api.Operand{
				{Kind: kind, Reg: r, Base: -1, Index: -1, Scale: 1}, {Kind: kind, Reg: r, Base: -1, Index: -1, Scale: 1, Disp: 9}, {Kind: kind, Reg: r, Base: api.EAX, Index: 8, Scale: 4, Disp: 0xfbfcfdff}, {Kind: kind, Reg: r},
			} {
				s := states.All()[(k+r+1)%4]
				for i, size := range sizes() {
					other(t, buses[i%len(buses)], s, o, size)
				}
			}
		}
	}
	if !alike(buses[0], before) {
		t.Error("P14.1: what isn't memory touched memory")
	}
}

// other holds Load and Store against chapter 13's calls, and asks whether s is as it was.
func other(t *testing.T, b *bus.Bus, s api.State, o api.Operand, size int) {
	t.Helper()
	was := s
	if got, err := addr.Load(b, s, o, size); got != regs.Get(was, o) || err != api.OK || s != was {
		t.Errorf("P14.1: Load(%+v, %+v, %d): %#x, %d", was, o, size, got, err)
	}
	for _, v := range []uint64{0, sample, math.MaxUint64} {
		if got, err := addr.Store(b, s, o, size, v); got != regs.Set(was, o, v) || err != api.OK || s != was {
			t.Errorf("P14.1: Store(%+v, %+v, %d, %#x): %+v, %d", was, o, size, v, got, err)
		}
	}
}

// Whatever is asked, what was stored is what is loaded, and it is asked by the same calls.
func TestAskedAlike(t *testing.T) {
	b := made(open(api.DataAt, 24))
	for _, s := range states.All() {
		var places []api.Operand
		for r := range 8 {
			places = append(places, reg(r), low(r), dbl(r), aimed(s, at(r, -1, 1, 0), uint32(r)), aimed(s, at(r, (r+3)%8, 4, 0), 16))
		}
		for _, o := range places {
			for _, size := range []int{1, 2, 4, 8} {
				bits := map[int]int{api.Reg: 32, api.Low: 8, api.Dbl: 64, api.Mem: 8 * size}[o.Kind]
				for _, v := range []uint64{0, sample, math.MaxUint64} {
					behind, err := addr.Store(b, s, o, size, v)
					got, e := addr.Load(b, behind, o, size)
					if want := v << (64 - bits) >> (64 - bits); got != want || err != api.OK || e != api.OK {
						t.Errorf("P14.2: %+v, %d bytes: %#x was stored, %#x loaded; %d, %d", o, size, v, got, err, e)
					}
				}
			}
		}
	}
}
