package encode_test

import (
	"slices"
	"strings"

	"saltern/api"
	"saltern/operands"
)

// none .. mem: operands as the chapters write them.
var none, reg, low, dbl, imm, mem = operands.None, operands.Reg, operands.Low, operands.Dbl, operands.Imm, operands.Mem

// shape: what an instruction of an operation and a size may be: words for A and B; has it a condition, is it Times of three, may it be repeated?
type shape struct {
	op, size       int
	a, b           string
	cond, of3, rep bool
}

// group: operations that have the same shapes, which are told with commas between.
type group struct {
	ops    []int
	size   int
	shapes string
}

// groups: all instructions that P10.1's table has, by operations instead of bytes. Operands are r, a register, or rm, it or memory (m), of 8, of 32 bits or d, a double; numbers: s8, signed, u8, u16, not signed, i32.
func groups() []group {
	return []group{
		{[]int{api.Add, api.Or, api.Adc, api.Sbb, api.And, api.Sub, api.Xor, api.Cmp, api.Mov}, 1, "rm8 r8, r8 rm8, rm8 u8"},
		{[]int{api.Add, api.Or, api.Adc, api.Sbb, api.And, api.Sub, api.Xor, api.Cmp, api.Mov}, 4, "rm32 r32, r32 rm32, rm32 i32"},
		{[]int{api.Test}, 1, "rm8 r8, rm8 u8"},
		{[]int{api.Test}, 4, "rm32 r32, rm32 i32"},
		{[]int{api.Xchg}, 1, "rm8 r8"},
		{[]int{api.Xchg}, 4, "rm32 r32"},
		{[]int{api.Not, api.Neg, api.Inc, api.Dec}, 1, "rm8"},
		{[]int{api.Not, api.Neg, api.Inc, api.Dec, api.Mul, api.Imul, api.Div, api.Idiv, api.Pop, api.Call, api.Jmp}, 4, "rm32"},
		{[]int{api.Push}, 4, "rm32, i32"},
		{[]int{api.Times}, 4, "r32 rm32, r32 rm32 of3"},
		{[]int{api.Rol, api.Ror, api.Shl, api.Shr, api.Sar}, 4, "rm32 s8, rm32 cl"},
		{[]int{api.Movzx, api.Movsx}, 1, "r32 rm8"},
		{[]int{api.Movzx, api.Movsx}, 2, "r32 rm32"},
		{[]int{api.Lea}, 4, "r32 m"},
		{[]int{api.Cmov}, 4, "r32 rm32 cond"},
		{[]int{api.Setcc}, 1, "rm8 - cond"},
		{[]int{api.Jcc}, 0, "i32 - cond"},
		{[]int{api.Call, api.Jmp}, 0, "i32"},
		{[]int{api.Ret}, 0, "-, u16"},
		{[]int{api.Cwde, api.Cdq, api.Hlt, api.Int3, api.Clc, api.Stc, api.Cmc, api.Cld, api.Std, api.Leave, api.Nop}, 0, "-"},
		{[]int{api.Movs, api.Stos}, 1, "- - rep"},
		{[]int{api.Movs, api.Stos}, 4, "- - rep"},
		{[]int{api.Lods}, 1, "-"},
		{[]int{api.Lods}, 4, "-"},
		{[]int{api.Movd}, 8, "rd rmd, rmd rd"},
		{[]int{api.Addd, api.Muld, api.Subd, api.Mind, api.Divd, api.Maxd, api.Sqrtd, api.Ucomi}, 8, "rd rmd"},
		{[]int{api.Fromi}, 4, "rd rm32"},
		{[]int{api.Toi}, 8, "r32 rmd"},
	}
}

// shapes answers all shapes, one by one.
func shapes() []shape {
	var all []shape
	for _, g := range groups() {
		for _, op := range g.ops {
			for told := range strings.SplitSeq(g.shapes, ", ") {
				words := append(strings.Fields(told), "-")
				all = append(all, shape{
					op: op, size: g.size, a: words[0], b: words[1],
					cond: slices.Contains(words, "cond"), of3: slices.Contains(words, "of3"), rep: slices.Contains(words, "rep"),
				})
			}
		}
	}
	return all
}

// chart: which instructions there are.
type chart struct {
	shapes map[int][]shape // by their operations
	rights map[api.Operand]int
}

// charted answers the chart.
func charted() chart {
	c := chart{map[int][]shape{}, map[api.Operand]int{}}
	for _, s := range shapes() {
		c.shapes[s.op] = append(c.shapes[s.op], s)
	}
	for _, o := range operands.Rights(0) {
		c.rights[o] = 1
	}
	return c
}

// has: is there such an instruction? Its Len says nothing.
func (c chart) has(i api.Instr) bool {
	for _, s := range c.shapes[i.Op] {
		cond, number := i.Cond == 0, i.C == 0
		if s.cond {
			cond = 0 <= i.Cond && i.Cond <= 15
		}
		if s.of3 {
			cond, number = i.Cond == 1, true
		}
		if i.Size == s.size && cond && number && (s.rep || !i.Rep) && c.fits(s.a, i.A) && c.fits(s.b, i.B) {
			return true
		}
	}
	return false
}

// fits: is that operand one of a word's?
func (c chart) fits(word string, o api.Operand) bool {
	switch word {
	case "-":
		return o == none()
	case "r8":
		return 0 <= o.Reg && o.Reg <= 7 && o == low(o.Reg)
	case "r32":
		return 0 <= o.Reg && o.Reg <= 7 && o == reg(o.Reg)
	case "rd":
		return 0 <= o.Reg && o.Reg <= 7 && o == dbl(o.Reg)
	case "cl":
		return o == low(1)
	case "m":
		o.Disp = 0
		return c.rights[o] > 0
	case "s8":
		return o == imm(o.Disp) && (o.Disp <= 0x7f || o.Disp >= 0xffffff80)
	case "u8":
		return o == imm(o.Disp) && o.Disp <= 0xff
	case "u16":
		return o == imm(o.Disp) && o.Disp <= 0xffff
	case "i32":
		return o == imm(o.Disp)
	}
	return c.fits("m", o) || c.fits(strings.Replace(word, "rm", "r", 1), o)
}

// samples answers operands of a word: all its registers, memory of each base and each index, its numbers that Disps has.
func (c chart) samples(word string) []api.Operand {
	all := []api.Operand{none()}
	for r := range 8 {
		all = append(all, low(r), reg(r), dbl(r))
	}
	all = append(all, mem(-1, -1, 1, 0), mem(-1, -1, 1, 0x12345678), mem(-1, -1, 1, 0xfffffffe), mem(4, -1, 1, 0), mem(5, -1, 1, 0), mem(5, -1, 1, 0x80), mem(4, -1, 1, 0xffffff80))
	for r := range 8 {
		all = append(all, mem(r, (r*3+1)%8, 1<<(r%4), uint32(r)*0x40), mem(-1, r, 1<<(r/2), uint32(r-4)))
	}
	for _, v := range operands.Disps() {
		all = append(all, imm(v))
	}
	return slices.DeleteFunc(all, func(o api.Operand) bool { return !c.fits(word, o) })
}

// few answers three of them, or one: the first, one in the middle, the last. Of registers or memory the last two are memory.
func (c chart) few(word string) []api.Operand {
	l := c.samples(word)
	return slices.Compact([]api.Operand{l[0], l[len(l)/2], l[len(l)-1]})
}

// conds and numbers answer the Conds and the Cs that a shape has.
func (s shape) conds() []int {
	switch {
	case s.cond:
		return []int{0, 1, 2, 3, 4, 5, 6, 7, 8, 9, 10, 11, 12, 13, 14, 15}
	case s.of3:
		return []int{1}
	}
	return []int{0}
}

func (s shape) numbers() []uint32 {
	if s.of3 {
		return operands.Disps()
	}
	return []uint32{0}
}

// each hands on every instruction of a shape with these operands.
func (s shape) each(as, bs []api.Operand, do func(api.Instr)) {
	for _, a := range as {
		for _, b := range bs {
			for _, cond := range s.conds() {
				for _, number := range s.numbers() {
					i := api.Instr{Op: s.op, Cond: cond, Size: s.size, A: a, B: b, C: number}
					do(i)
					if i.Rep = s.rep; i.Rep {
						do(i)
					}
				}
			}
		}
	}
}

// kinds answers a few instructions of each shape.
func (c chart) kinds() []api.Instr {
	var all []api.Instr
	for _, s := range shapes() {
		s.each(c.few(s.a), c.few(s.b), func(i api.Instr) { all = append(all, i) })
	}
	return all
}
