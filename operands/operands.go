// Package operands: operands as the tests of the layers write them.
package operands

import (
	"math"

	"saltern/api"
)

// None, Reg, Low, Dbl, Imm, Mem: operands as P9.1 and P10.1 write them.
func None() api.Operand { return alone(api.None, 0, 0) }

// Reg: see None.
func Reg(r int) api.Operand { return alone(api.Reg, r, 0) }

// Low: see None.
func Low(r int) api.Operand { return alone(api.Low, r, 0) }

// Dbl: see None.
func Dbl(r int) api.Operand { return alone(api.Dbl, r, 0) }

// Imm: see None.
func Imm(v uint32) api.Operand { return alone(api.Imm, 0, v) }

// Mem: see None.
func Mem(base, index, scale int, disp uint32) api.Operand {
	return api.Operand{Kind: api.Mem, Base: base, Index: index, Scale: scale, Disp: disp}
}

// alone: an operand of neither base nor index.
func alone(kind, r int, v uint32) api.Operand {
	return api.Operand{Kind: kind, Reg: r, Base: -1, Index: -1, Scale: 1, Disp: v}
}

// Rights answers every operand of memory that is Right, of one Disp.
func Rights(disp uint32) []api.Operand {
	var all []api.Operand
	for _, base := range []int{-1, 0, 1, 2, 3, 4, 5, 6, 7} {
		all = append(all, Mem(base, -1, 1, disp))
		for _, index := range []int{0, 1, 2, 3, 5, 6, 7} {
			for _, scale := range []int{1, 2, 4, 8} {
				all = append(all, Mem(base, index, scale, disp))
			}
		}
	}
	return all
}

// Disps answers numbers about those that one byte holds, or two, and about the ends.
func Disps() []uint32 {
	return []uint32{
		0, 1, 2, 0x7e, 0x7f, 0x80, 0x81, 0xfe, 0xff, 0x100, 0x101, 0x180, 0x7fff, 0x8000, 0xff80, 0xfffe, 0xffff, 0x10000, 0x10001, 0x12345678, 0x78563412,
		0x7f000000, 0x7fffffff, 0x80000000, 0x80000001, 0x8000007f, 0xff000000, 0xffffff00, 0xffffff7e, 0xffffff7f, 0xffffff80, 0xffffff81, 0xfffffffe, 0xffffffff,
	}
}

// Ints answers where an operand's ints are, so that each can be changed on its own.
func Ints(o *api.Operand) []*int {
	return []*int{&o.Kind, &o.Reg, &o.Base, &o.Index, &o.Scale}
}

// Like answers numbers that a cut, or a look at some of the bits, would take for v, and the ends of all ints.
func Like(v int) []int {
	all := []int{math.MinInt, math.MinInt + 1, math.MaxInt - 1, math.MaxInt, math.MinInt32, math.MaxInt32, math.MinInt + v}
	for _, far := range []int{16, 32, 64, 1 << 8, 1 << 16, 1 << 32, 1 << 33, 1 << 62} {
		all = append(all, v+far, v-far)
	}
	return all
}
