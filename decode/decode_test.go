package decode

import (
	"bytes"
	"math/rand"
	"slices"
	"testing"

	"saltern/api"
)

// ins: an instruction as the table writes it, but for Cond, C and Rep.
func ins(op, size int, a, b api.Operand, n int) api.Instr {
	return api.Instr{Op: op, Size: size, A: a, B: b, Len: n}
}

// on: with this condition.
func on(cond int, i api.Instr) api.Instr {
	i.Cond = cond
	return i
}

// times: by a third operand.
func times(a, b api.Operand, c uint32, n int) api.Instr {
	return api.Instr{Op: api.Times, Cond: 1, Size: 4, A: a, B: b, C: c, Len: n}
}

// rep: repeated.
func rep(i api.Instr) api.Instr {
	i.Rep = true
	return i
}

// one holds One of these bytes against what it should be.
func one(t *testing.T, promise string, b []byte, i api.Instr, err api.Errno) {
	t.Helper()
	if got, gotErr := One(b); got != i || gotErr != err {
		t.Fatalf("%s: One(% x): %+v, %d, not %+v, %d", promise, b, got, gotErr, i, err)
	}
}

// each holds One of every beginning of these bytes, none and all too, against the chart.
func each(t *testing.T, all charted, b []byte) {
	t.Helper()
	for n := range len(b) + 1 {
		i, err := all.want(b[:n])
		one(t, "P10.2", b[:n], i, err)
		if i.Len > 11 || i.Len > n {
			t.Fatalf("P10.2: One(% x): %d bytes", b[:n], i.Len)
		}
	}
}

// tails: what may stand behind an opcode: numbers whose bytes all differ, ones that a sign changes, noughts.
func tails() [][]byte {
	return [][]byte{
		{0x81, 0x92, 0xa3, 0xb4, 0xc5, 0xd6, 0xe7, 0xf8, 0x89, 0x9a},
		{0x7f, 0x6e, 0x5d, 0x4c, 0x3b, 0x2a, 0x19, 0x08, 0x77, 0x66},
		make([]byte, 10),
		bytes.Repeat([]byte{0xff}, 10),
	}
}

// written: bytes, and the instruction that they are.
type written struct {
	b string
	i api.Instr
}

// byHand holds One against a list, of these bytes alone and with others behind.
func byHand(t *testing.T, list []written) {
	t.Helper()
	for _, x := range list {
		b := unhex(x.b)
		if len(b) != x.i.Len {
			t.Fatalf("P10.1: %s: the list says %d bytes", x.b, x.i.Len)
		}
		one(t, "P10.1", b, x.i, api.OK)
		one(t, "P10.1", append(b, 0xf3, 0x0f, 0x06), x.i, api.OK)
	}
}

func TestReckonedByHand(t *testing.T) {
	byHand(t, []written{
		{"00 d8", ins(api.Add, 1, low(0), low(3), 2)}, {"00 44 98 08", ins(api.Add, 1, mem(0, 3, 4, 8), low(0), 4)},
		{"01 d8", ins(api.Add, 4, reg(0), reg(3), 2)}, {"09 35 04 03 02 01", ins(api.Or, 4, mem(-1, -1, 1, 0x01020304), reg(6), 6)},
		{"12 e1", ins(api.Adc, 1, low(4), low(1), 2)}, {"12 24 24", ins(api.Adc, 1, low(4), mem(4, -1, 1, 0), 3)},
		{"1b fc", ins(api.Sbb, 4, reg(7), reg(4), 2)}, {"1b 7d fe", ins(api.Sbb, 4, reg(7), mem(5, -1, 1, 0xfffffffe), 3)},
		{"24 80", ins(api.And, 1, low(0), imm(0x80), 2)}, {"25 80 00 00 00", ins(api.And, 4, reg(0), imm(0x80), 5)},
		{"2d 04 03 02 81", ins(api.Sub, 4, reg(0), imm(0x81020304), 5)}, {"34 ff", ins(api.Xor, 1, low(0), imm(0xff), 2)},
		{"38 c7", ins(api.Cmp, 1, low(7), low(0), 2)}, {"3d ff ff ff ff", ins(api.Cmp, 4, reg(0), imm(0xffffffff), 5)},
		{"84 ca", ins(api.Test, 1, low(2), low(1), 2)}, {"85 0a", ins(api.Test, 4, mem(2, -1, 1, 0), reg(1), 2)},
		{"86 e5", ins(api.Xchg, 1, low(5), low(4), 2)}, {"87 2e", ins(api.Xchg, 4, mem(6, -1, 1, 0), reg(5), 2)},
		{"88 10", ins(api.Mov, 1, mem(0, -1, 1, 0), low(2), 2)}, {"89 d6", ins(api.Mov, 4, reg(6), reg(2), 2)},
		{"8a 10", ins(api.Mov, 1, low(2), mem(0, -1, 1, 0), 2)}, {"8b d6", ins(api.Mov, 4, reg(2), reg(6), 2)},
		{"8d 44 8d fc", ins(api.Lea, 4, reg(0), mem(5, 1, 4, 0xfffffffc), 4)},
		{"a8 90", ins(api.Test, 1, low(0), imm(0x90), 2)}, {"a9 01 00 00 80", ins(api.Test, 4, reg(0), imm(0x80000001), 5)},
	})
}

func TestRegistersOfOpcodes(t *testing.T) {
	for r := range 8 {
		byHand(t, []written{
			{hex(0x40 + r), ins(api.Inc, 4, reg(r), none(), 1)}, {hex(0x48 + r), ins(api.Dec, 4, reg(r), none(), 1)},
			{hex(0x50 + r), ins(api.Push, 4, reg(r), none(), 1)}, {hex(0x58 + r), ins(api.Pop, 4, reg(r), none(), 1)},
			{hex(0xb0+r) + "fe", ins(api.Mov, 1, low(r), imm(0xfe), 2)}, {hex(0xb8+r) + "01020380", ins(api.Mov, 4, reg(r), imm(0x80030201), 5)},
		})
		if r > 0 {
			byHand(t, []written{{hex(0x90 + r), ins(api.Xchg, 4, reg(0), reg(r), 1)}})
		}
	}
	byHand(t, []written{{"90", ins(api.Nop, 0, none(), none(), 1)}})
}

func TestWithoutOperands(t *testing.T) {
	for _, x := range []struct {
		b        string
		op, size int
	}{
		{"90", api.Nop, 0}, {"98", api.Cwde, 0}, {"99", api.Cdq, 0}, {"c3", api.Ret, 0}, {"c9", api.Leave, 0}, {"cc", api.Int3, 0}, {"f4", api.Hlt, 0},
		{"f5", api.Cmc, 0}, {"f8", api.Clc, 0}, {"f9", api.Stc, 0}, {"fc", api.Cld, 0}, {"fd", api.Std, 0},
		{"a4", api.Movs, 1}, {"a5", api.Movs, 4}, {"aa", api.Stos, 1}, {"ab", api.Stos, 4}, {"ac", api.Lods, 1}, {"ad", api.Lods, 4},
	} {
		byHand(t, []written{{x.b, ins(x.op, x.size, none(), none(), 1)}})
	}
	byHand(t, []written{
		{"f3 a4", rep(ins(api.Movs, 1, none(), none(), 2))}, {"f3 a5", rep(ins(api.Movs, 4, none(), none(), 2))},
		{"f3 aa", rep(ins(api.Stos, 1, none(), none(), 2))}, {"f3 ab", rep(ins(api.Stos, 4, none(), none(), 2))},
	})
}

func TestMemoryWithoutBase(t *testing.T) {
	at := mem(-1, -1, 1, 0x84030201)
	byHand(t, []written{
		{"a0 01 02 03 84", ins(api.Mov, 1, low(0), at, 5)}, {"a1 01 02 03 84", ins(api.Mov, 4, reg(0), at, 5)},
		{"a2 01 02 03 84", ins(api.Mov, 1, at, low(0), 5)}, {"a3 01 02 03 84", ins(api.Mov, 4, at, reg(0), 5)},
	})
}

// Signed or not: a byte of 80 and more, and the greatest that isn't.
func TestOneByteNumbers(t *testing.T) {
	byHand(t, []written{
		{"6a 7f", ins(api.Push, 4, imm(0x7f), none(), 2)}, {"6a 80", ins(api.Push, 4, imm(0xffffff80), none(), 2)}, {"68 80 00 00 00", ins(api.Push, 4, imm(0x80), none(), 5)},
		{"83 e0 e0", ins(api.And, 4, reg(0), imm(0xffffffe0), 3)}, {"83 3c 24 7f", ins(api.Cmp, 4, mem(4, -1, 1, 0), imm(0x7f), 4)},
		{"80 e0 e0", ins(api.And, 1, low(0), imm(0xe0), 3)}, {"80 f4 80", ins(api.Xor, 1, low(4), imm(0x80), 3)}, {"81 c1 e0 00 00 00", ins(api.Add, 4, reg(1), imm(0xe0), 6)},
		{"c1 e0 ff", ins(api.Shl, 4, reg(0), imm(0xffffffff), 3)}, {"c1 e8 1f", ins(api.Shr, 4, reg(0), imm(31), 3)}, {"c1 78 80 80", ins(api.Sar, 4, mem(0, -1, 1, 0xffffff80), imm(0xffffff80), 4)},
		{"c6 c4 ff", ins(api.Mov, 1, low(4), imm(0xff), 3)}, {"c7 c4 ff 00 00 00", ins(api.Mov, 4, reg(4), imm(0xff), 6)},
		{"c6 40 80 80", ins(api.Mov, 1, mem(0, -1, 1, 0xffffff80), imm(0x80), 4)}, {"f6 c2 80", ins(api.Test, 1, low(2), imm(0x80), 3)}, {"f7 c2 80 81 82 83", ins(api.Test, 4, reg(2), imm(0x83828180), 6)},
		{"6b c3 80", times(reg(0), reg(3), 0xffffff80, 3)}, {"6b c3 7f", times(reg(0), reg(3), 0x7f, 3)}, {"69 c3 80 00 00 00", times(reg(0), reg(3), 0x80, 6)},
		{"69 5c 24 fc fe ff ff ff", times(reg(3), mem(4, -1, 1, 0xfffffffc), 0xfffffffe, 8)}, {"0f af c3", ins(api.Times, 4, reg(0), reg(3), 3)}, {"0f af 1e", ins(api.Times, 4, reg(3), mem(6, -1, 1, 0), 3)},
	})
}

func TestWhereItGoesOn(t *testing.T) {
	for c := range 16 {
		byHand(t, []written{
			{hex(0x70+c) + "80", on(c, ins(api.Jcc, 0, imm(0xffffff80), none(), 2))}, {hex(0x70+c) + "7f", on(c, ins(api.Jcc, 0, imm(0x7f), none(), 2))},
			{"0f" + hex(0x80+c) + "80000000", on(c, ins(api.Jcc, 0, imm(0x80), none(), 6))}, {"0f" + hex(0x80+c) + "fcffffff", on(c, ins(api.Jcc, 0, imm(0xfffffffc), none(), 6))},
			{"0f" + hex(0x40+c) + "ca", on(c, ins(api.Cmov, 4, reg(1), reg(2), 3))}, {"0f" + hex(0x40+c) + "0a", on(c, ins(api.Cmov, 4, reg(1), mem(2, -1, 1, 0), 3))},
		})
		for r := range 8 {
			byHand(t, []written{
				{"0f" + hex(0x90+c) + hex(0xc5+8*r-c%4), on(c, ins(api.Setcc, 1, low(5-c%4), none(), 3))},
				{"0f" + hex(0x90+c) + hex(8*r+3), on(c, ins(api.Setcc, 1, mem(3, -1, 1, 0), none(), 3))},
			})
		}
	}
	byHand(t, []written{
		{"e8 80 00 00 00", ins(api.Call, 0, imm(0x80), none(), 5)}, {"e9 fb ff ff ff", ins(api.Jmp, 0, imm(0xfffffffb), none(), 5)},
		{"eb 7f", ins(api.Jmp, 0, imm(0x7f), none(), 2)}, {"eb fe", ins(api.Jmp, 0, imm(0xfffffffe), none(), 2)},
		{"c2 08 00", ins(api.Ret, 0, imm(8), none(), 3)}, {"c2 fe ff", ins(api.Ret, 0, imm(0xfffe), none(), 3)}, {"c2 80 81", ins(api.Ret, 0, imm(0x8180), none(), 3)}, {"c2 ff 00", ins(api.Ret, 0, imm(0xff), none(), 3)},
		{"ff d0", ins(api.Call, 4, reg(0), none(), 2)}, {"ff 10", ins(api.Call, 4, mem(0, -1, 1, 0), none(), 2)}, {"ff e7", ins(api.Jmp, 4, reg(7), none(), 2)}, {"ff 24 8d 00 10 00 00", ins(api.Jmp, 4, mem(-1, 1, 4, 0x1000), none(), 7)},
		{"ff 70 04", ins(api.Push, 4, mem(0, -1, 1, 4), none(), 3)}, {"ff f4", ins(api.Push, 4, reg(4), none(), 2)}, {"8f 44 24 04", ins(api.Pop, 4, mem(4, -1, 1, 4), none(), 4)}, {"8f c4", ins(api.Pop, 4, reg(4), none(), 2)},
	})
}

// Which operation each reg of an opcode chooses; 0: none.
func TestChosenByReg(t *testing.T) {
	reckoned := []int{api.Add, api.Or, api.Adc, api.Sbb, api.And, api.Sub, api.Xor, api.Cmp}
	moved := []int{api.Rol, api.Ror, 0, 0, api.Shl, api.Shr, 0, api.Sar}
	for _, x := range []struct {
		code, behind string
		size         int
		ops          []int
		b            api.Operand
	}{
		{"80", "f0", 1, reckoned, imm(0xf0)}, {"81", "f0010203", 4, reckoned, imm(0x030201f0)}, {"83", "f0", 4, reckoned, imm(0xfffffff0)},
		{"8f", "", 4, []int{api.Pop, 0, 0, 0, 0, 0, 0, 0}, none()},
		{"c1", "03", 4, moved, imm(3)}, {"d1", "", 4, moved, imm(1)}, {"d3", "", 4, moved, low(1)},
		{"c6", "f0", 1, []int{api.Mov, 0, 0, 0, 0, 0, 0, 0}, imm(0xf0)}, {"c7", "f0010203", 4, []int{api.Mov, 0, 0, 0, 0, 0, 0, 0}, imm(0x030201f0)},
		{"f6", "", 1, []int{-1, 0, api.Not, api.Neg, 0, 0, 0, 0}, none()}, {"f7", "", 4, []int{-1, 0, api.Not, api.Neg, api.Mul, api.Imul, api.Div, api.Idiv}, none()},
		{"fe", "", 1, []int{api.Inc, api.Dec, 0, 0, 0, 0, 0, 0}, none()}, {"ff", "", 4, []int{api.Inc, api.Dec, api.Call, 0, api.Jmp, 0, api.Push, 0}, none()},
	} {
		for r, op := range x.ops {
			itself := map[int]func(int) api.Operand{1: low, 4: reg}[x.size](6)
			rows := []written{
				{x.code + hex(0xc6+8*r) + x.behind, ins(op, x.size, itself, x.b, 0)}, {x.code + hex(0x06+8*r) + x.behind, ins(op, x.size, mem(6, -1, 1, 0), x.b, 0)},
				{x.code + hex(0x44+8*r) + "9810" + x.behind, ins(op, x.size, mem(0, 3, 4, 16), x.b, 0)}, {x.code + hex(0x85+8*r) + "00000080" + x.behind, ins(op, x.size, mem(5, -1, 1, 0x80000000), x.b, 0)},
			}
			for _, row := range rows {
				row.i.Len = len(unhex(row.b))
				switch op {
				case 0:
					noInstr(t, unhex(row.b), 2)
				case -1: // Test, which TestOneByteNumbers has, as only it has a number
				default:
					byHand(t, []written{row})
				}
			}
		}
	}
}

func TestWidened(t *testing.T) {
	byHand(t, []written{
		{"0f b6 c4", ins(api.Movzx, 1, reg(0), low(4), 3)}, {"0f b6 38", ins(api.Movzx, 1, reg(7), mem(0, -1, 1, 0), 3)},
		{"0f b7 e0", ins(api.Movzx, 2, reg(4), reg(0), 3)}, {"0f b7 38", ins(api.Movzx, 2, reg(7), mem(0, -1, 1, 0), 3)},
		{"0f be ef", ins(api.Movsx, 1, reg(5), low(7), 3)}, {"0f be 38", ins(api.Movsx, 1, reg(7), mem(0, -1, 1, 0), 3)},
		{"0f bf ef", ins(api.Movsx, 2, reg(5), reg(7), 3)}, {"0f bf 7c 24 80", ins(api.Movsx, 2, reg(7), mem(4, -1, 1, 0xffffff80), 5)},
	})
}

func TestDoubles(t *testing.T) {
	for _, x := range []struct {
		b  string
		op int
	}{
		{"f2 0f 10", api.Movd}, {"f2 0f 51", api.Sqrtd}, {"f2 0f 58", api.Addd}, {"f2 0f 59", api.Muld}, {"f2 0f 5c", api.Subd}, {"f2 0f 5d", api.Mind}, {"f2 0f 5e", api.Divd}, {"f2 0f 5f", api.Maxd}, {"66 0f 2e", api.Ucomi},
	} {
		n := len(unhex(x.b)) + 1
		byHand(t, []written{
			{x.b + "ca", ins(x.op, 8, dbl(1), dbl(2), n)}, {x.b + "fc", ins(x.op, 8, dbl(7), dbl(4), n)}, {x.b + "0a", ins(x.op, 8, dbl(1), mem(2, -1, 1, 0), n)}, {x.b + "44cdf8", ins(x.op, 8, dbl(0), mem(5, 1, 8, 0xfffffff8), n+2)},
		})
	}
	byHand(t, []written{
		{"f2 0f 11 ca", ins(api.Movd, 8, dbl(2), dbl(1), 4)}, {"f2 0f 11 0a", ins(api.Movd, 8, mem(2, -1, 1, 0), dbl(1), 4)},
		{"f2 0f 2a ca", ins(api.Fromi, 4, dbl(1), reg(2), 4)}, {"f2 0f 2a 0a", ins(api.Fromi, 4, dbl(1), mem(2, -1, 1, 0), 4)},
		{"f2 0f 2c ca", ins(api.Toi, 8, reg(1), dbl(2), 4)}, {"f2 0f 2c 0a", ins(api.Toi, 8, reg(1), mem(2, -1, 1, 0), 4)},
	})
}

// The longest instructions that there are, and ones of other lengths.
func TestLen(t *testing.T) {
	byHand(t, []written{
		{"81 84 8d 01 02 03 04 05 06 07 08", ins(api.Add, 4, mem(5, 1, 4, 0x04030201), imm(0x08070605), 11)}, {"69 84 8d 01 02 03 04 05 06 07 88", times(reg(0), mem(5, 1, 4, 0x04030201), 0x88070605, 11)},
		{"c7 84 8d 01 02 03 04 05 06 07 08", ins(api.Mov, 4, mem(5, 1, 4, 0x04030201), imm(0x08070605), 11)}, {"f7 84 8d 01 02 03 04 05 06 07 08", ins(api.Test, 4, mem(5, 1, 4, 0x04030201), imm(0x08070605), 11)},
		{"f2 0f 58 84 8d 01 02 03 04", ins(api.Addd, 8, dbl(0), mem(5, 1, 4, 0x04030201), 9)}, {"0f af 84 8d 01 02 03 04", ins(api.Times, 4, reg(0), mem(5, 1, 4, 0x04030201), 8)},
		{"80 05 01 02 03 04 05", ins(api.Add, 1, mem(-1, -1, 1, 0x04030201), imm(5), 7)},
	})
}

// noInstr asks that bytes are those of none from the first n on, and too short of fewer.
func noInstr(t *testing.T, b []byte, n int) {
	t.Helper()
	for k := range len(b) + 1 {
		err := api.ErrInstr
		if k < n {
			err = api.ErrShort
		}
		one(t, "P10.2", b[:k], api.Instr{}, err)
		if k >= n {
			one(t, "P10.2", append(slices.Clone(b[:k]), bytes.Repeat([]byte{0x90}, 20)...), api.Instr{}, err)
		}
	}
}

func TestNoInstrAsSoonAsItIs(t *testing.T) {
	for _, x := range []struct {
		b string
		n int
	}{
		{"06", 1}, {"07", 1}, {"0e", 1}, {"26", 1}, {"27", 1}, {"2e", 1}, {"2f", 1}, {"36", 1}, {"3e", 1}, {"3f", 1}, {"60", 1}, {"62", 1}, {"67", 1}, {"6c", 1}, {"82 c0 01", 1}, {"8c", 1}, {"8e", 1}, {"9a", 1}, {"9c", 1}, {"a6", 1}, {"ae", 1},
		{"c0 c0 01", 1}, {"c4", 1}, {"c8", 1}, {"ca", 1}, {"cd 80", 1}, {"d0 c0", 1}, {"d2 c0", 1}, {"d8", 1}, {"e0 00", 1}, {"e3 00", 1}, {"ea", 1}, {"ec", 1}, {"f0", 1}, {"f1", 1}, {"fa", 1}, {"fb", 1},
		{"0f 05", 2}, {"0f 0b", 2}, {"0f 0f", 2}, {"0f 10 c0", 2}, {"0f 2e c0", 2}, {"0f 31", 2}, {"0f 58 c0", 2}, {"0f 34", 2}, {"0f a2", 2}, {"0f b0 c0", 2}, {"0f c8", 2}, {"0f ae c0", 2}, {"0f f2", 2},
		{"66 90", 2}, {"66 66", 2}, {"66 f2 0f 10 c0", 2}, {"66 89 c0", 2}, {"66 0f 2f c0", 3}, {"66 0f 58 c0", 3}, {"66 0f 10 c0", 3}, {"66 0f af c0", 3}, {"66 0f 2c c0", 3}, {"66 2e c0", 2},
		{"f2 90", 2}, {"f2 f2 0f 10 c0", 2}, {"f2 a4", 2}, {"f2 66 0f 2e c0", 2}, {"f2 10 c0", 2}, {"f2 0f 2e c0", 3}, {"f2 0f 2d c0", 3}, {"f2 0f 12 c0", 3}, {"f2 0f 54 c0", 3}, {"f2 0f 5a c0", 3}, {"f2 0f 40 c0", 3}, {"f2 0f 80", 3}, {"f2 0f af c0", 3},
		{"f3 90", 2}, {"f3 f3 a4", 2}, {"f3 0f 10 c0", 2}, {"f3 ac", 2}, {"f3 ad", 2}, {"f3 a6", 2}, {"f3 ae", 2}, {"f3 c3", 2}, {"f3 66 a5", 2},
		{"8d c0", 2}, {"8d c4", 2}, {"8d d5", 2}, {"8d ff", 2},
		{"8f 08", 2}, {"8f 7c", 2}, {"c1 14", 2}, {"c1 95", 2}, {"c1 b5", 2}, {"d1 54", 2}, {"d3 9c", 2}, {"c6 4c", 2}, {"c7 bc", 2}, {"f6 8c", 2}, {"f6 a4", 2}, {"f7 8c", 2}, {"fe 94", 2}, {"fe bc", 2}, {"ff 9c", 2}, {"ff ac", 2}, {"ff bc", 2},
	} {
		noInstr(t, unhex(x.b), x.n)
	}
}

// Every beginning that is too short of an instruction is told so.
func TestTooShort(t *testing.T) {
	for code, regs := range rows() {
		for r := range regs {
			for _, first := range []byte{0x00, 0x05, 0x44, 0x45, 0x84, 0x85} {
				b := append([]byte(code), first|byte(max(r, 0)<<3), 0x25, 1, 2, 3, 4, 5, 6, 7, 8, 9)
				i, err := One(b)
				if err != api.OK {
					t.Fatalf("P10.1: One(% x): %d", b, err)
				}
				for n := range i.Len {
					one(t, "P10.2", b[:n], api.Instr{}, api.ErrShort)
					one(t, "P10.2", slices.Clip(b[:n:n]), api.Instr{}, api.ErrShort)
				}
				one(t, "P10.2", b[:i.Len:i.Len], i, api.OK)
			}
		}
	}
}

func TestEachOpcodeWithEachByteBehind(t *testing.T) {
	all := rows()
	for first := range 256 {
		for behind := range 256 {
			for _, tail := range tails() {
				each(t, all, append([]byte{byte(first), byte(behind)}, tail...))
			}
		}
	}
}

func TestEachSecondOpcode(t *testing.T) {
	all := rows()
	for _, prefix := range []string{"\x0f", "\xf2\x0f", "\x66\x0f", "\xf3"} {
		for second := range 256 {
			for behind := range 256 {
				for k, tail := range tails() {
					b := slices.Concat([]byte(prefix), []byte{byte(second), byte(behind)}, tail)
					i, err := all.want(b)
					one(t, "P10.1", b, i, err)
					if k == 0 {
						each(t, all, b)
					}
				}
			}
		}
	}
}

// How many there are of each, counted by hand in the chapter's table.
func TestHowManyThereAre(t *testing.T) {
	for _, x := range []struct {
		prefix string
		want   int
	}{
		{"", 48 + 32 + 4 + 16 + 3 + 2 + 2 + 4 + 1 + 1 + 8 + 2 + 4 + 6 + 2 + 16 + 1 + 2 + 2 + 3 + 2 + 3 + 5 + 2 + 2}, {"\x0f", 16 + 16 + 16 + 1 + 4}, {"\xf3", 4}, {"\xf2\x0f", 11}, {"\x66\x0f", 1}, {"\xf2", 0}, {"\x66", 0},
	} {
		n := 0
		for second := range 256 {
			if _, err := One(append([]byte(x.prefix), append([]byte{byte(second)}, make([]byte, 12)...)...)); err == api.OK {
				n++
			}
		}
		if n != x.want {
			t.Errorf("P10.1: behind % x: %d opcodes, not %d", x.prefix, n, x.want)
		}
	}
}

func TestAnyBytes(t *testing.T) {
	all := rows()
	picks := rand.New(rand.NewSource(10))
	for range 300000 {
		b := make([]byte, picks.Intn(24))
		picks.Read(b)
		i, err := all.want(b)
		one(t, "P10.1", b, i, err)
	}
}

func TestNoBytes(t *testing.T) {
	one(t, "P10.2", nil, api.Instr{}, api.ErrShort)
	one(t, "P10.2", []byte{}, api.Instr{}, api.ErrShort)
}

// One byte again and again: of so few and so many.
func TestOneByteAgain(t *testing.T) {
	all := rows()
	for v := range 256 {
		b := bytes.Repeat([]byte{byte(v)}, 64)
		each(t, all, b)
		for n := range len(b) + 1 {
			list(t, all, b[:n])
		}
	}
	b := bytes.Repeat([]byte{0x90}, 1<<16)
	list(t, all, b)
	list(t, all, append(b, 0x0f))
}

// What stands behind an instruction says nothing, be it bytes or the room behind them; and none of it is changed.
func TestOneLooksNoFurther(t *testing.T) {
	picks := rand.New(rand.NewSource(100))
	for range 100000 {
		b := make([]byte, 24)
		picks.Read(b)
		before := slices.Clone(b)
		i, err := One(b)
		if err == api.OK {
			one(t, "P10.3", b[:i.Len], i, api.OK)
			one(t, "P10.3", b[:i.Len:i.Len], i, api.OK)
		}
		for n := range i.Len {
			one(t, "P10.3", b[:n], api.Instr{}, api.ErrShort)
		}
		if !bytes.Equal(b, before) {
			t.Fatalf("P10.3: One changed % x to % x", before, b)
		}
		picks.Read(b[i.Len:])
		if err == api.OK {
			one(t, "P10.3", b, i, api.OK)
		}
	}
}
