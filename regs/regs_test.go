package regs_test

import (
	"encoding/binary"
	"math"
	"testing"

	"saltern/api"
	"saltern/operands"
	"saltern/regs"
	"saltern/states"
)

// reg, low, dbl, imm: operands as the chapters write them.
var reg, low, dbl, imm = operands.Reg, operands.Low, operands.Dbl, operands.Imm

// values: each bit alone and each but one, ones that are unlike in all bytes, whole numbers, doubles of every kind.
func values() []uint64 {
	all := []uint64{
		0, math.MaxUint64, 0x0123456789abcdef, 0xfedcba9876543210, 0xff00ff00ff00ff00, 0x00ff00ff00ff00ff, 0xffffffff00000000, 0xffffff00, 0x7f, 0x80, 0xff, 0x100, 0x1ff, 0x7fffffff, 0xffffffff,
		0x3ff0000000000000, 0xbff0000000000000, 0x000fffffffffffff, 0x0010000000000000, 0x7fefffffffffffff, 0x7ff0000000000000, 0xfff0000000000000,
		0x7ff8000000000000, 0xfff8000000000000, 0x7ff0000000000001, 0xfff0000000000001, 0x7ff4000000000000, 0x7fffffffffffffff, 0xfff7ffffffffffff, 0x7ff800000000beef,
	}
	for at := range 64 {
		all = append(all, 1<<at, ^uint64(1<<at))
	}
	return all
}

// places: every operand that is a place in a state.
func places() []api.Operand {
	var all []api.Operand
	for r := range 8 {
		all = append(all, reg(r), low(r), dbl(r))
	}
	return all
}

// filled answers o with something in each field that says nothing of a register.
func filled(o api.Operand) api.Operand {
	return api.Operand{Kind: o.Kind, Reg: o.Reg, Base: 7 - o.Reg, Index: 2, Scale: 8, Disp: 0x99887766}
}

// row: a state's registers as bytes, the lowest ones first, so that a byte of a register is one of them.
type row struct {
	r [32]byte
	x [64]byte
}

func rowOf(s api.State) (b row) {
	for r := range 8 {
		binary.LittleEndian.PutUint32(b.r[4*r:], s.R[r])
		binary.LittleEndian.PutUint64(b.x[8*r:], s.X[r])
	}
	return b
}

// part answers the bytes of b that a place is.
func (b *row) part(o api.Operand) []byte {
	switch o.Kind {
	case api.Reg:
		return b.r[4*o.Reg:][:4]
	case api.Low:
		return b.r[[8]int{0, 4, 8, 12, 1, 5, 9, 13}[o.Reg]:][:1]
	}
	return b.x[8*o.Reg:][:8]
}

// number answers bytes as a number.
func number(b []byte) (v uint64) {
	for k := len(b) - 1; k >= 0; k-- {
		v = v*256 + uint64(b[k])
	}
	return v
}

// after answers s with v in o's bytes, and nothing else changed.
func after(s api.State, o api.Operand, v uint64) api.State {
	b := rowOf(s)
	for k := range b.part(o) {
		b.part(o)[k] = byte(v % 256)
		v /= 256
	}
	for r := range 8 {
		s.R[r] = binary.LittleEndian.Uint32(b.r[4*r:])
		s.X[r] = binary.LittleEndian.Uint64(b.x[8*r:])
	}
	return s
}

// get holds Get against what it should be, and asks whether s is as it was.
func get(t *testing.T, s api.State, o api.Operand, want uint64) {
	t.Helper()
	was := s
	if got := regs.Get(s, o); got != want || s != was {
		t.Errorf("P13.1: Get(%+v, %+v): %#x, not %#x", s, o, got, want)
	}
}

// set holds Set against what it should be, and asks whether s is as it was.
func set(t *testing.T, s api.State, o api.Operand, v uint64, want api.State) {
	t.Helper()
	was := s
	if got := regs.Set(s, o, v); got != want || s != was {
		t.Errorf("P13.1: Set(%+v, %+v, %#x): %+v, not %+v", was, o, v, got, want)
	}
}

func TestGetByHand(t *testing.T) {
	get(t, api.State{R: [8]uint32{0x1234}}, low(4), 0x12)
	for kind, want := range map[int][8]uint64{
		api.Reg: {0x04030201, 0x18171615, 0x2c2b2a29, 0x3f3e3d3c, 0x84838281, 0x98979695, 0xacabaaa9, 0xffbebdbc},
		api.Low: {0x01, 0x15, 0x29, 0x3c, 0x02, 0x16, 0x2a, 0x3d},
		api.Dbl: {
			0x0807060504030201, 0x1817161514131211, 0x2827262524232221, 0x3837363534333231,
			0x8887868584838281, 0x9897969594939291, 0xa8a7a6a5a4a3a2a1, 0xf8f7f6f5f4f3f2f1,
		},
	} {
		for r, v := range want {
			get(t, states.Full(), api.Operand{Kind: kind, Reg: r, Base: -1, Index: -1, Scale: 1}, v)
		}
	}
}

// Kind and Reg alone say which register it is.
func TestGet(t *testing.T) {
	for _, s := range states.All() {
		for _, o := range places() {
			b := rowOf(s)
			want := number(b.part(o))
			get(t, s, o, want)
			get(t, s, filled(o), want)
			get(t, s, api.Operand{Kind: o.Kind, Reg: o.Reg}, want)
		}
	}
}

func TestGetOfImm(t *testing.T) {
	for _, s := range states.All() {
		for _, v := range values() {
			get(t, s, imm(uint32(v)), v%(1<<32))
			for r := range 8 {
				get(t, s, api.Operand{Kind: api.Imm, Reg: r, Base: 3, Index: 2, Scale: 8, Disp: uint32(v)}, v%(1<<32))
			}
		}
	}
}

func TestSetByHand(t *testing.T) {
	for _, x := range []struct {
		o    api.Operand
		v    uint64
		r, w uint32 // EAX and EBX behind it
		x    uint64 // the double 2 behind it
	}{
		{reg(0), 0xaabbccdd, 0xaabbccdd, 0x3f3e3d3c, 0x2827262524232221}, {reg(3), 0x11111111aabbccdd, 0x04030201, 0xaabbccdd, 0x2827262524232221},
		{low(0), 0xff, 0x040302ff, 0x3f3e3d3c, 0x2827262524232221}, {low(4), 0xff, 0x0403ff01, 0x3f3e3d3c, 0x2827262524232221},
		{low(3), 0xffffffffffffff00, 0x04030201, 0x3f3e3d00, 0x2827262524232221}, {low(7), 0x12345600, 0x04030201, 0x3f3e003c, 0x2827262524232221},
		{dbl(2), 0xfff800000000beef, 0x04030201, 0x3f3e3d3c, 0xfff800000000beef}, {dbl(2), 0x7ff0000000000001, 0x04030201, 0x3f3e3d3c, 0x7ff0000000000001},
	} {
		want := states.Full()
		want.R[api.EAX], want.R[api.EBX], want.X[2] = x.r, x.w, x.x
		set(t, states.Full(), x.o, x.v, want)
	}
}

func TestSet(t *testing.T) {
	for _, s := range states.All() {
		for _, o := range places() {
			for _, v := range values() {
				set(t, s, o, v, after(s, o, v))
			}
			set(t, s, filled(o), 0x5a5a5a5a5a5a5a5a, after(s, o, 0x5a5a5a5a5a5a5a5a))
			set(t, s, o, regs.Get(s, o), s)
		}
	}
}

// Two states that were made of one share no register.
func TestSetTwice(t *testing.T) {
	for _, o := range places() {
		s := states.Full()
		first := regs.Set(s, o, 0)
		second := regs.Set(first, o, math.MaxUint64)
		if s != states.Full() || first != after(states.Full(), o, 0) || second != after(states.Full(), o, math.MaxUint64) {
			t.Errorf("P13.1: Set of %+v, twice: %+v, %+v, %+v", o, s, first, second)
		}
	}
}

// Whatever is set, each byte of a register is told alike as a byte and as a part of the whole one.
func TestBytesAreBytesOfRegisters(t *testing.T) {
	for r := range 8 {
		for v := range uint64(256) {
			s := regs.Set(states.Full(), low(r), v)
			get(t, s, low(r), v)
			whole := regs.Get(s, reg(r%4))
			if r >= 4 {
				whole /= 256
			}
			if whole%256 != v {
				t.Errorf("P13.3: byte %d is %#x, its register %#x", r, v, regs.Get(s, reg(r%4)))
			}
		}
	}
	for r := range 4 {
		for _, v := range values() {
			s := regs.Set(states.Full(), reg(r), v)
			if first, second := regs.Get(s, low(r)), regs.Get(s, low(r+4)); first != v%256 || second != v/256%256 {
				t.Errorf("P13.3: register %d is %#x, its bytes %#x and %#x", r, v, first, second)
			}
			s = regs.Set(states.Full(), reg(r+4), v)
			for b := range 8 {
				get(t, s, low(b), regs.Get(states.Full(), low(b)))
			}
		}
	}
}

// beyond: numbers of no register: about the ends, and ones that would pass for one by some of their bits.
func beyond() []int {
	all := []int{8, 9, 10, 11, 12, 15, 100, -9, -100}
	for r := range 8 {
		all = append(all, -1-r)
		all = append(all, operands.Like(r)...)
	}
	return all
}

// nothing asks that o is nothing that can be told or set.
func nothing(t *testing.T, o api.Operand) {
	t.Helper()
	for _, s := range states.All() {
		get(t, s, o, 0)
		set(t, s, o, 0, s)
		set(t, s, o, 0x5a5a5a5a5a5a5a5a, s)
		set(t, s, o, math.MaxUint64, s)
	}
}

func TestRegistersBeyond(t *testing.T) {
	for _, kind := range []int{api.None, api.Reg, api.Low, api.Mem, api.Imm, api.Dbl, -1, 6} {
		for _, r := range beyond() {
			nothing(t, api.Operand{Kind: kind, Reg: r, Base: -1, Index: -1, Scale: 1})
			nothing(t, api.Operand{Kind: kind, Reg: r, Base: 3, Index: 2, Scale: 4, Disp: 5})
		}
	}
}

func TestOtherKinds(t *testing.T) {
	nothing(t, operands.None())
	nothing(t, operands.Mem(0, 3, 4, 8))
	kinds := []int{api.None, api.Mem, -1, -2, api.Dbl + 1, api.Dbl + 2, 7, 8, 100}
	for kind := range api.Dbl + 1 {
		kinds = append(kinds, operands.Like(kind)...)
	}
	for _, kind := range kinds {
		switch kind {
		case api.Reg, api.Low, api.Imm, api.Dbl:
			continue
		}
		for r := range 8 {
			nothing(t, api.Operand{Kind: kind, Reg: r, Base: -1, Index: -1, Scale: 1})
			nothing(t, filled(api.Operand{Kind: kind, Reg: r}))
		}
	}
}

// Of what isn't a place Set changes nothing, although an immediate can be told.
func TestSetOfImm(t *testing.T) {
	for _, s := range states.All() {
		for r := range 8 {
			for _, v := range values() {
				set(t, s, api.Operand{Kind: api.Imm, Reg: r, Base: -1, Index: -1, Scale: 1, Disp: 5}, v, s)
			}
		}
	}
}
