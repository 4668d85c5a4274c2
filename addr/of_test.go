package addr_test

import (
	"math"
	"math/big"
	"testing"

	"saltern/addr"
	"saltern/api"
	"saltern/operands"
	"saltern/states"
)

// reg, low, dbl, imm, at: operands as the chapters write them.
var reg, low, dbl, imm, at = operands.Reg, operands.Low, operands.Dbl, operands.Imm, operands.Mem

// register answers what a base or an index is, as a whole number.
func register(s api.State, r int) *big.Int {
	for k, v := range s.R {
		if k == r {
			return big.NewInt(int64(v))
		}
	}
	return new(big.Int)
}

// rest answers what is left of P14.1's sum, as a whole number, by 2^32.
func rest(s api.State, o api.Operand) uint32 {
	sum := new(big.Int).Mul(register(s, o.Index), big.NewInt(int64(o.Scale)))
	sum.Add(sum, register(s, o.Base))
	sum.Add(sum, big.NewInt(int64(o.Disp)))
	return uint32(sum.Mod(sum, big.NewInt(1<<32)).Uint64())
}

// of holds Of against what it should be, and asks whether s is as it was.
func of(t *testing.T, s api.State, o api.Operand, want uint32) {
	t.Helper()
	was := s
	if got := addr.Of(s, o); got != want || s != was {
		t.Errorf("P14.1: Of(%+v, %+v): %#x, not %#x", was, o, got, want)
	}
}

// outside answers numbers of no register: about the ends, and ones that would pass for one by some of their bits.
func outside() []int {
	all := []int{-1, 8, -2, -7, -8, -9, 9, 10, 11, 12, 13, 14, 15, 100, -100}
	for r := range 8 {
		all = append(all, operands.Like(r)...)
	}
	return all
}

// unusual answers scales that no bytes tell: noughts, ones below it, others, ones that would pass for one by some of their bits.
func unusual() []int {
	all := []int{0, -1, -2, -3, -4, -8, 3, 5, 6, 7, 9, 10, 16, 100, -100, math.MaxUint32, -math.MaxUint32, 0x123456789abcdef}
	for _, scale := range []int{0, 1, 2, 4, 8} {
		all = append(all, operands.Like(scale)...)
	}
	return all
}

func TestOfByHand(t *testing.T) {
	s := api.State{R: [8]uint32{0x1000, 0x20000, 0x300000, 0x4000000, 0x50000000, 0x80000001, 0xfffffffe, 0xffffffff}}
	for _, x := range []struct {
		o    api.Operand
		want uint32
	}{
		{at(api.EAX, api.EBX, 4, 8), 0x10001008}, {at(api.EBX, api.EAX, 4, 8), 0x04004008},
		{at(-1, -1, 1, 0), 0}, {at(-1, -1, 1, 0x12345678), 0x12345678}, {at(-1, -1, 8, 0xffffffff), 0xffffffff},
		{at(api.EAX, -1, 1, 0), 0x1000}, {at(api.ECX, -1, 1, 0), 0x20000}, {at(api.EDX, -1, 1, 0), 0x300000}, {at(api.EBX, -1, 1, 0), 0x4000000},
		{at(api.ESP, -1, 1, 0), 0x50000000}, {at(api.EBP, -1, 1, 0), 0x80000001}, {at(api.ESI, -1, 1, 0), 0xfffffffe}, {at(api.EDI, -1, 1, 0), 0xffffffff},
		{at(-1, api.EAX, 1, 0), 0x1000}, {at(-1, api.ECX, 2, 0), 0x40000}, {at(-1, api.EDX, 4, 0), 0xc00000}, {at(-1, api.EBX, 8, 0), 0x20000000},
		{at(-1, api.ESP, 1, 0), 0x50000000}, {at(-1, api.EBP, 1, 0), 0x80000001}, {at(-1, api.ESI, 1, 0), 0xfffffffe}, {at(-1, api.EDI, 1, 0), 0xffffffff},
		// One register as both.
		{at(api.EAX, api.EAX, 1, 0), 0x2000}, {at(api.EAX, api.EAX, 8, 5), 0x9005}, {at(api.ESP, api.ESP, 1, 0), 0xa0000000}, {at(api.EDI, api.EDI, 8, 9), 0},
		// Round 2^32: by Disp, by a product, by a base and an index, by all of them, often.
		{at(api.EDI, -1, 1, 1), 0}, {at(api.ESI, -1, 1, 0xffffffff), 0xfffffffd}, {at(-1, api.EBP, 2, 0), 2}, {at(-1, api.EBP, 8, 0xfffffff8), 0},
		{at(-1, api.ESP, 4, 0), 0x40000000}, {at(api.ESI, api.EDI, 1, 0), 0xfffffffd}, {at(api.EBP, api.EDI, 8, 0xffffffff), 0x7ffffff8}, {at(api.EAX, -1, 1, 0xfffff000), 0}, {at(api.EAX, -1, 1, 0xffffefff), 0xffffffff},
		// Registers that aren't there.
		{at(8, -1, 1, 5), 5}, {at(-2, 8, 8, 5), 5}, {at(math.MinInt, math.MaxInt, 8, 0), 0}, {at(8, api.EAX, 2, 1), 0x2001}, {at(api.EAX, 8, 2, 1), 0x1001},
		// Scales that none has.
		{at(api.EAX, api.ECX, 0, 7), 0x1007}, {at(api.EAX, api.EAX, -1, 7), 7}, {at(-1, api.EAX, -1, 0), 0xfffff000}, {at(-1, api.EAX, 3, 0), 0x3000}, {at(-1, api.EDI, -8, 0), 8},
		{at(-1, api.EAX, 1<<32, 1), 1}, {at(-1, api.EAX, 1<<32+2, 1), 0x2001}, {at(-1, api.EDI, math.MinInt, 1), 1}, {at(-1, api.EDI, math.MaxInt, 0), 1},
	} {
		of(t, s, x.o, x.want)
	}
}

func TestOf(t *testing.T) {
	for _, s := range states.All() {
		for _, disp := range operands.Disps() {
			for _, o := range operands.Rights(disp) {
				of(t, s, o, rest(s, o))
			}
			for base := -1; base < 8; base++ {
				for _, scale := range []int{1, 2, 4, 8} {
					o := at(base, api.ESP, scale, disp)
					of(t, s, o, rest(s, o))
				}
			}
		}
	}
}

// Of the sum each of the three parts can be told, whatever the others are.
func TestPartsOfTheSum(t *testing.T) {
	for _, s := range states.All() {
		for r := range 8 {
			for _, disp := range operands.Disps() {
				of(t, s, at(r, -1, 1, disp), s.R[r]+disp)
				of(t, s, at(-1, r, 1, disp), s.R[r]+disp)
				of(t, s, at(r, r, 1, disp), s.R[r]<<1+disp)
				of(t, s, at(-1, r, 2, disp), s.R[r]<<1+disp)
				of(t, s, at(-1, r, 4, disp), s.R[r]<<2+disp)
				of(t, s, at(-1, r, 8, disp), s.R[r]<<3+disp)
			}
		}
	}
}

func TestOfRegistersOutside(t *testing.T) {
	for _, s := range states.All() {
		for _, r := range outside() {
			for k := range 8 {
				of(t, s, at(r, k, 4, 5), s.R[k]<<2+5)
				of(t, s, at(k, r, 4, 5), s.R[k]+5)
				of(t, s, at(k, r, r, 5), s.R[k]+5)
			}
			of(t, s, at(r, r, 8, 0x80000005), 0x80000005)
		}
	}
}

func TestOfOtherScales(t *testing.T) {
	for _, s := range states.All() {
		for _, scale := range unusual() {
			for base := -1; base < 9; base++ {
				for index := -1; index < 9; index++ {
					o := at(base, index, scale, 0xfffffff9)
					of(t, s, o, rest(s, o))
				}
			}
		}
	}
}

// Base, Index, Scale and Disp say where it is, nothing else does: neither Kind nor Reg, nor the rest of a state.
func TestOfNothingElse(t *testing.T) {
	s := states.Full()
	for _, x := range []api.State{{R: s.R}, {R: s.R, IP: ^s.IP, X: s.X}, {R: s.R, F: s.F}} {
		for _, kind := range append(operands.Like(api.Mem), api.None, api.Reg, api.Low, api.Mem, api.Imm, api.Dbl, -1, 6) {
			for _, r := range append(outside(), 0, 1, 4, 7) {
				of(t, x, api.Operand{Kind: kind, Reg: r, Base: api.ECX, Index: api.EBP, Scale: 8, Disp: 5}, 0xdcd3cac2)
			}
		}
	}
}
