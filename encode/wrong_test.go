package encode_test

import (
	"math"
	"math/rand"
	"slices"
	"testing"

	"saltern/api"
	"saltern/operands"
)

// ints answers where an instruction's ints are, but for Len.
func ints(i *api.Instr) []*int {
	return slices.Concat([]*int{&i.Op, &i.Cond, &i.Size}, operands.Ints(&i.A), operands.Ints(&i.B))
}

// words answers where its numbers of 32 bits are.
func words(i *api.Instr) []*uint32 {
	return []*uint32{&i.A.Disp, &i.B.Disp, &i.C}
}

func TestNone(t *testing.T) {
	refused(t, api.Instr{})
	refused(t, api.Instr{Len: 1})
	refused(t, api.Instr{Op: api.Nop})
	refused(t, api.Instr{Op: api.Add, Size: 4})
	for op := -1; op <= api.Ops+1; op++ {
		refused(t, api.Instr{Op: op})
		refused(t, api.Instr{Op: op, Cond: -1, Size: -1, A: reg(-1), B: reg(-1), C: math.MaxUint32, Rep: true, Len: -1})
		refused(t, api.Instr{Op: op, Cond: math.MinInt, Size: math.MinInt, A: mem(math.MinInt, math.MinInt, math.MinInt, 0), B: low(math.MinInt), Len: math.MinInt})
		refused(t, api.Instr{Op: op, Cond: math.MaxInt, Size: math.MaxInt, A: mem(math.MaxInt, math.MaxInt, math.MaxInt, 0), B: dbl(math.MaxInt), Len: math.MaxInt})
	}
}

func TestWrongByHand(t *testing.T) {
	nowhere := ins(api.Nop, 0)
	nowhere.B = api.Operand{}
	withNumber := ins(api.Times, 4, reg(0), reg(1))
	withNumber.C = 1
	for told, i := range map[string]api.Instr{
		"no operation": ins(0, 0), "one too many": ins(api.Ops, 0), "an operand that isn't named told as noughts": nowhere,
		"Nop with an operand": ins(api.Nop, 0, reg(0)), "Nop of 4": ins(api.Nop, 4), "Nop with a condition": on(1, ins(api.Nop, 0)), "Nop repeated": rep(ins(api.Nop, 0)),
		"Lods repeated": rep(ins(api.Lods, 1)), "Ret repeated": rep(ins(api.Ret, 0)), "Add repeated": rep(ins(api.Add, 4, reg(0), reg(1))), "Movs of 2": ins(api.Movs, 2), "Stos of 8, repeated": rep(ins(api.Stos, 8)),
		"Lea with a register": ins(api.Lea, 4, reg(0), reg(1)), "Lea of 1": ins(api.Lea, 1, low(0), mem(0, -1, 1, 0)), "Lea into memory": ins(api.Lea, 4, mem(0, -1, 1, 0), reg(0)),
		"Mov of memory and memory": ins(api.Mov, 4, mem(0, -1, 1, 0), mem(1, -1, 1, 0)), "Mov of [n] and [n]": ins(api.Mov, 4, mem(-1, -1, 1, 5), mem(-1, -1, 1, 5)), "Push of 1": ins(api.Push, 1, low(0)), "Pop of a number": ins(api.Pop, 4, imm(0)),
		"Mov of 4, a byte's register": ins(api.Mov, 4, reg(0), low(1)), "Mov of 1, a register of 4": ins(api.Mov, 1, reg(0), low(1)), "Mov of 1, a number of 256": ins(api.Mov, 1, low(0), imm(256)), "Mov of 1, a number below 0": ins(api.Mov, 1, low(0), imm(0xffffffff)),
		"Mov into a number": ins(api.Mov, 4, imm(0), reg(0)), "Test of a register, memory": ins(api.Test, 4, reg(0), mem(0, -1, 1, 0)), "Xchg with a number": ins(api.Xchg, 4, reg(0), imm(0)), "Xchg of a register, memory": ins(api.Xchg, 4, reg(0), mem(0, -1, 1, 0)),
		"Times of two with a number": withNumber, "Times of three, condition 2": on(2, times(reg(0), reg(1), 5)), "Times of three, condition 17": on(17, times(reg(0), reg(1), 5)), "Times into memory": times(mem(0, -1, 1, 0), reg(1), 5),
		"Shl by 128": ins(api.Shl, 4, reg(0), imm(0x80)), "Shl by 255": ins(api.Shl, 4, reg(0), imm(0xff)), "Shl by -129": ins(api.Shl, 4, reg(0), imm(0xffffff7f)), "Shl by DL": ins(api.Shl, 4, reg(0), low(2)), "Shl by ECX": ins(api.Shl, 4, reg(0), reg(1)), "Shl of 1": ins(api.Shl, 1, low(0), imm(1)),
		"Ret of 65536": ins(api.Ret, 0, imm(65536)), "Ret of -1": ins(api.Ret, 0, imm(0xffffffff)), "Ret of a register": ins(api.Ret, 0, reg(0)), "Jcc of a register": on(1, ins(api.Jcc, 4, reg(0))), "Jcc, condition 16": on(16, ins(api.Jcc, 0, imm(0))), "Setcc, condition -1": on(-1, ins(api.Setcc, 1, low(0))), "Setcc of 4": on(1, ins(api.Setcc, 4, reg(0))),
		"Jmp of a number, of 4": ins(api.Jmp, 4, imm(0)), "Call of a register, of 0": ins(api.Call, 0, reg(0)), "Jmp with a condition": on(1, ins(api.Jmp, 0, imm(0))), "Cmov into memory": on(1, ins(api.Cmov, 4, mem(0, -1, 1, 0), reg(0))), "Cmov, condition 256": on(256, ins(api.Cmov, 4, reg(0), reg(1))),
		"Mul of 1": ins(api.Mul, 1, low(0)), "Idiv with a number": ins(api.Idiv, 4, reg(0), imm(1)), "Not with a number": ins(api.Not, 4, reg(0), imm(0)), "Inc of 2": ins(api.Inc, 2, reg(0)),
		"Movzx of 4": ins(api.Movzx, 4, reg(0), reg(1)), "Movzx of 1, a register of 4": ins(api.Movzx, 1, reg(0), reg(1)), "Movsx of 2, a byte's register": ins(api.Movsx, 2, reg(0), low(1)), "Movsx of 1 into a byte": ins(api.Movsx, 1, low(0), low(1)),
		"Movd of registers of 4": ins(api.Movd, 8, reg(0), reg(1)), "Fromi of 8": ins(api.Fromi, 8, dbl(0), reg(1)), "Fromi of a double": ins(api.Fromi, 4, dbl(0), dbl(1)), "Fromi into a register": ins(api.Fromi, 4, reg(0), reg(1)),
		"Toi of 4": ins(api.Toi, 4, reg(0), dbl(1)), "Toi of a register": ins(api.Toi, 8, reg(0), reg(1)), "Toi into a double": ins(api.Toi, 8, dbl(0), dbl(1)), "Addd into memory": ins(api.Addd, 8, mem(0, -1, 1, 0), dbl(1)), "Ucomi of memory, a double": ins(api.Ucomi, 8, mem(0, -1, 1, 0), dbl(1)),
		"an index of ESP": ins(api.Push, 4, mem(0, 4, 1, 0)), "a scale of 3": ins(api.Push, 4, mem(0, 1, 3, 0)), "a scale without an index": ins(api.Push, 4, mem(0, -1, 2, 0)), "a base of 8": ins(api.Push, 4, mem(8, -1, 1, 0)), "a base of -2": ins(api.Push, 4, mem(-2, -1, 1, 0)), "a register of 8": ins(api.Push, 4, reg(8)), "a register of -1": ins(api.Inc, 1, low(-1)),
		"Reg and Op that would sum up to Dec": ins(api.Inc, 4, reg(8)), "AL of memory with a base": ins(api.Mov, 1, low(0), mem(0, 4, 1, 5)),
	} {
		if charted().has(i) {
			t.Errorf("%s: the chart has %+v", told, i)
		}
		refused(t, i)
	}
}

// Each field on its own, with numbers about all that there are, far from them, and ones that would pass by some of their bits.
func TestEachFieldByItself(t *testing.T) {
	c := charted()
	for _, i := range c.kinds() {
		for k := range ints(&i) {
			other := i
			for _, v := range operands.Like(*ints(&i)[k]) {
				*ints(&other)[k] = v
				c.held(t, other)
			}
			for v := -3; v <= 18; v++ {
				*ints(&other)[k] = v
				c.held(t, other)
			}
		}
		for k := range words(&i) {
			other := i
			for _, v := range operands.Disps() {
				*words(&other)[k] = v
				c.held(t, other)
			}
		}
		other := i
		other.Rep = !i.Rep
		c.held(t, other)
		for other, op := i, -1; op <= api.Ops+1; op++ {
			other.Op = op
			c.held(t, other)
		}
	}
}

// Each operand in place of each other one.
func TestEachOperandInEach(t *testing.T) {
	c := charted()
	all := []api.Operand{
		none(), {}, reg(0), reg(1), reg(7), low(0), low(1), low(7), dbl(0), dbl(1), dbl(7), imm(0), imm(1), imm(0x80), imm(0xff), imm(0x100), imm(0xffffff80), imm(0xffff), imm(0x10000),
		mem(-1, -1, 1, 5), mem(0, -1, 1, 0), mem(4, -1, 1, 0), mem(5, 5, 8, 0), mem(0, 4, 1, 0), {Kind: api.Mem}, {Kind: api.Reg}, {Kind: api.Imm},
	}
	for op := range api.Ops {
		for _, size := range []int{0, 1, 2, 4, 8} {
			for _, a := range all {
				for _, b := range all {
					c.held(t, ins(op, size, a, b))
					c.held(t, times(a, b, 0))
				}
			}
		}
	}
}

func TestBothMemory(t *testing.T) {
	for op := -1; op <= api.Ops; op++ {
		for _, size := range []int{0, 1, 2, 4, 8} {
			for cond := range 16 {
				refused(t, on(cond, ins(op, size, mem(cond%8, -1, 1, 0), mem(-1, -1, 1, 5))))
				refused(t, on(cond, ins(op, size, mem(-1, -1, 1, 5), mem(-1, -1, 1, 5))))
				refused(t, rep(on(cond, ins(op, size, mem(6, -1, 1, 0), mem(7, -1, 1, 0)))))
			}
		}
	}
}

// Fields of one instruction in another one, any of them.
func TestFieldsOfOthers(t *testing.T) {
	c, picks := charted(), rand.New(rand.NewSource(111))
	kinds := c.kinds()
	for range 300000 {
		i, from := kinds[picks.Intn(len(kinds))], kinds[picks.Intn(len(kinds))]
		for range 1 + picks.Intn(3) {
			switch k := picks.Intn(len(ints(&i)) + 6); k {
			case 0, 1, 2:
				*words(&i)[k] = *words(&from)[k]
			case 3:
				i.A = from.A
			case 4:
				i.B = from.B
			case 5:
				i.Rep = from.Rep
			default:
				*ints(&i)[k-6] = *ints(&from)[k-6]
			}
		}
		c.held(t, i)
	}
}

// Any numbers in all fields.
func TestAnyFields(t *testing.T) {
	c, picks := charted(), rand.New(rand.NewSource(1111))
	for range 100000 {
		i := api.Instr{C: picks.Uint32(), Rep: picks.Intn(2) == 0, Len: int(picks.Uint64())}
		for _, at := range ints(&i) {
			*at = int(picks.Uint64()) >> (picks.Intn(8) * 8)
		}
		for _, at := range words(&i) {
			*at = picks.Uint32() >> (picks.Intn(4) * 8)
		}
		i.Op = picks.Intn(api.Ops + 1)
		c.held(t, i)
	}
}
