package encode_test

import (
	"encoding/hex"
	"math/rand"
	"slices"
	"strings"
	"testing"

	"saltern/api"
	"saltern/decode"
	"saltern/encode"
	"saltern/operands"
)

// written asks for bytes that are read as i, and answers them.
func written(t *testing.T, i api.Instr) []byte {
	t.Helper()
	b, err := encode.One(i)
	if err != api.OK {
		t.Fatalf("P11.1: One(%+v): %d", i, err)
	}
	got, err := decode.One(b)
	if i.Len = len(b); got != i || err != api.OK {
		t.Fatalf("P11.2: One(%+v): % x, which are read as %+v, %d", i, b, got, err)
	}
	return b
}

// refused asks that there be no bytes of i.
func refused(t *testing.T, i api.Instr) {
	t.Helper()
	if b, err := encode.One(i); len(b) != 0 || err != api.ErrInstr {
		t.Fatalf("P11.1: One(%+v): % x, %d, not ErrInstr", i, b, err)
	}
}

// held holds One against the chart.
func (c chart) held(t *testing.T, i api.Instr) {
	t.Helper()
	if c.has(i) {
		written(t, i)
	} else {
		refused(t, i)
	}
}

// ins: an instruction of these operands; the others aren't named.
func ins(op, size int, named ...api.Operand) api.Instr {
	all := append(named, none(), none())
	return api.Instr{Op: op, Size: size, A: all[0], B: all[1]}
}

// on: with this condition.
func on(cond int, i api.Instr) api.Instr {
	i.Cond = cond
	return i
}

// times: by a third operand.
func times(a, b api.Operand, v uint32) api.Instr {
	i := on(1, ins(api.Times, 4, a, b))
	i.C = v
	return i
}

// rep: repeated.
func rep(i api.Instr) api.Instr {
	i.Rep = true
	return i
}

// byHand holds One against all bytes that the table has for an instruction, with strokes between.
func byHand(t *testing.T, i api.Instr, rows string) {
	t.Helper()
	b := written(t, i)
	if rows = strings.ReplaceAll(rows, " ", ""); !slices.Contains(strings.Split(rows, "/"), hex.EncodeToString(b)) {
		t.Errorf("P11.1: One(%+v): % x, not %s", i, b, rows)
	}
}

func TestOneByHand(t *testing.T) {
	for _, x := range []struct {
		i    api.Instr
		rows string
	}{
		{ins(api.Nop, 0), "90"}, {ins(api.Cwde, 0), "98"}, {ins(api.Cdq, 0), "99"}, {ins(api.Ret, 0), "c3"}, {ins(api.Leave, 0), "c9"}, {ins(api.Int3, 0), "cc"}, {ins(api.Hlt, 0), "f4"},
		{ins(api.Cmc, 0), "f5"}, {ins(api.Clc, 0), "f8"}, {ins(api.Stc, 0), "f9"}, {ins(api.Cld, 0), "fc"}, {ins(api.Std, 0), "fd"},
		{ins(api.Movs, 1), "a4"}, {ins(api.Movs, 4), "a5"}, {ins(api.Stos, 1), "aa"}, {ins(api.Stos, 4), "ab"}, {ins(api.Lods, 1), "ac"}, {ins(api.Lods, 4), "ad"},
		{rep(ins(api.Movs, 1)), "f3a4"}, {rep(ins(api.Movs, 4)), "f3a5"}, {rep(ins(api.Stos, 1)), "f3aa"}, {rep(ins(api.Stos, 4)), "f3ab"},
		{ins(api.And, 4, reg(0), imm(0xffffffe0)), "83e0e0 / 81e0e0ffffff / 25e0ffffff"}, {ins(api.Add, 1, low(0), imm(0xff)), "80c0ff / 04ff"}, {ins(api.Cmp, 4, reg(7), imm(0x80)), "81ff80000000"},
		{ins(api.Add, 1, low(0), low(1)), "00c8 / 02c1"}, {ins(api.Sub, 4, reg(6), reg(2)), "29d6 / 2bf2"}, {ins(api.Xor, 4, reg(4), reg(4)), "31e4 / 33e4"},
		{ins(api.Inc, 4, reg(3)), "43 / ffc3"}, {ins(api.Dec, 4, reg(3)), "4b / ffcb"}, {ins(api.Inc, 1, low(4)), "fec4"}, {ins(api.Dec, 1, low(4)), "fecc"},
		{ins(api.Push, 4, reg(5)), "55 / fff5"}, {ins(api.Pop, 4, reg(5)), "5d / 8fc5"}, {ins(api.Push, 4, imm(0x7f)), "6a7f / 687f000000"}, {ins(api.Push, 4, imm(0xffffff80)), "6a80 / 6880ffffff"},
		{ins(api.Push, 4, imm(0x80)), "6880000000"}, {ins(api.Push, 4, imm(0xffffff7f)), "687fffffff"},
		{times(reg(0), reg(3), 0xffffffff), "6bc3ff / 69c3ffffffff"}, {times(reg(1), reg(1), 0), "6bc900 / 69c900000000"}, {times(reg(7), reg(4), 0x80), "69fc80000000"}, {ins(api.Times, 4, reg(0), reg(3)), "0fafc3"},
		{ins(api.Test, 1, low(2), low(1)), "84ca"}, {ins(api.Test, 4, reg(2), reg(1)), "85ca"}, {ins(api.Test, 1, low(0), imm(0x80)), "a880 / f6c080"}, {ins(api.Test, 4, reg(0), imm(1)), "a901000000 / f7c001000000"}, {ins(api.Test, 1, low(4), imm(0x80)), "f6c480"},
		{ins(api.Xchg, 4, reg(0), reg(1)), "91 / 87c8"}, {ins(api.Xchg, 4, reg(1), reg(0)), "87c1"}, {ins(api.Xchg, 4, reg(0), reg(0)), "87c0"}, {ins(api.Xchg, 4, reg(6), reg(7)), "87fe"}, {ins(api.Xchg, 1, low(5), low(4)), "86e5"},
		{ins(api.Mov, 1, low(7), imm(0xfe)), "b7fe / c6c7fe"}, {ins(api.Mov, 4, reg(4), imm(0xff)), "bcff000000 / c7c4ff000000"}, {ins(api.Mov, 1, low(2), low(6)), "88f2 / 8ad6"}, {ins(api.Mov, 4, reg(6), reg(2)), "89d6 / 8bf2"},
		{ins(api.Not, 1, low(3)), "f6d3"}, {ins(api.Neg, 1, low(3)), "f6db"}, {ins(api.Not, 4, reg(3)), "f7d3"}, {ins(api.Neg, 4, reg(3)), "f7db"}, {ins(api.Mul, 4, reg(3)), "f7e3"}, {ins(api.Imul, 4, reg(3)), "f7eb"}, {ins(api.Div, 4, reg(3)), "f7f3"}, {ins(api.Idiv, 4, reg(3)), "f7fb"},
		{ins(api.Rol, 4, reg(1), imm(1)), "d1c1 / c1c101"}, {ins(api.Ror, 4, reg(1), imm(2)), "c1c902"}, {ins(api.Shl, 4, reg(1), low(1)), "d3e1"}, {ins(api.Shr, 4, reg(1), imm(0xffffffff)), "c1e9ff"}, {ins(api.Sar, 4, reg(1), imm(0xffffff80)), "c1f980"},
		{ins(api.Ret, 0, imm(0)), "c20000"}, {ins(api.Ret, 0, imm(8)), "c20800"}, {ins(api.Ret, 0, imm(65535)), "c2ffff"},
		{ins(api.Call, 0, imm(5)), "e805000000"}, {ins(api.Jmp, 0, imm(0xfffffffe)), "ebfe / e9feffffff"}, {ins(api.Jmp, 0, imm(0x80)), "e980000000"}, {ins(api.Call, 4, reg(2)), "ffd2"}, {ins(api.Jmp, 4, reg(0)), "ffe0"},
		{on(12, ins(api.Jcc, 0, imm(0x7f))), "7c7f / 0f8c7f000000"}, {on(15, ins(api.Jcc, 0, imm(0xffffff7f))), "0f8f7fffffff"}, {on(5, ins(api.Cmov, 4, reg(1), reg(2))), "0f45ca"},
		{on(4, ins(api.Setcc, 1, low(7))), "0f94c7 / 0f94cf / 0f94d7 / 0f94df / 0f94e7 / 0f94ef / 0f94f7 / 0f94ff"},
		{ins(api.Movzx, 1, reg(0), low(5)), "0fb6c5"}, {ins(api.Movzx, 2, reg(2), reg(6)), "0fb7d6"}, {ins(api.Movsx, 1, reg(1), low(7)), "0fbecf"}, {ins(api.Movsx, 2, reg(5), reg(4)), "0fbfec"},
		{ins(api.Movd, 8, dbl(1), dbl(2)), "f20f10ca / f20f11d1"}, {ins(api.Fromi, 4, dbl(1), reg(2)), "f20f2aca"}, {ins(api.Toi, 8, reg(1), dbl(2)), "f20f2cca"}, {ins(api.Ucomi, 8, dbl(1), dbl(2)), "660f2eca"},
		{ins(api.Sqrtd, 8, dbl(1), dbl(2)), "f20f51ca"}, {ins(api.Addd, 8, dbl(1), dbl(2)), "f20f58ca"}, {ins(api.Muld, 8, dbl(1), dbl(2)), "f20f59ca"}, {ins(api.Subd, 8, dbl(1), dbl(2)), "f20f5cca"},
		{ins(api.Mind, 8, dbl(1), dbl(2)), "f20f5dca"}, {ins(api.Divd, 8, dbl(1), dbl(2)), "f20f5eca"}, {ins(api.Maxd, 8, dbl(1), dbl(2)), "f20f5fca"},
	} {
		byHand(t, x.i, x.rows)
	}
}

func TestMemoryByHand(t *testing.T) {
	at := mem(-1, -1, 1, 0x12345678)
	const far, sibs = " 78563412 ", "25 65 a5 e5"
	for _, x := range []struct {
		i        api.Instr
		own, row string
	}{
		{ins(api.Mov, 1, low(0), at), "a0", "8a"}, {ins(api.Mov, 4, reg(0), at), "a1", "8b"}, {ins(api.Mov, 1, at, low(0)), "a2", "88"}, {ins(api.Mov, 4, at, reg(0)), "a3", "89"},
	} {
		rows := x.own + far + "/" + x.row + "05" + far
		for second := range strings.FieldsSeq(sibs) {
			rows += "/" + x.row + "04" + second + far
		}
		byHand(t, x.i, rows)
	}
	byHand(t, ins(api.Lea, 4, reg(1), mem(5, 1, 4, 0x8000)), "8d8c8d 00800000")
	byHand(t, ins(api.Add, 4, mem(3, 6, 2, 0x100), imm(0x101)), "818473 00010000 01010000")
	byHand(t, ins(api.Movd, 8, mem(0, -1, 1, 0x81), dbl(3)), "f20f1198 81000000 / f20f119c20 81000000 / f20f119c60 81000000 / f20f119ca0 81000000 / f20f119ce0 81000000")
}

// Each shape with all registers, with memory and with numbers about all ends.
func TestOneOfEachShape(t *testing.T) {
	c := charted()
	for _, s := range shapes() {
		s.each(c.samples(s.a), c.samples(s.b), func(i api.Instr) {
			if !c.has(i) {
				t.Fatalf("the chart hasn't %+v", i)
			}
			written(t, i)
		})
	}
}

// As many operations as api has, and each of them written.
func TestEachOp(t *testing.T) {
	c := charted()
	for op := api.Add; op < api.Ops; op++ {
		if len(c.shapes[op]) == 0 {
			t.Errorf("the chart hasn't the operation %d", op)
		}
	}
	if len(c.shapes) != api.Ops-1 {
		t.Errorf("the chart has %d operations", len(c.shapes))
	}
}

// Memory of each base, index, scale and number, as A and as B, with nothing behind it and with a number.
func TestOneOfEachMemory(t *testing.T) {
	for n, disp := range operands.Disps() {
		for k, o := range operands.Rights(disp) {
			r := (k + n) % 8
			for _, i := range []api.Instr{
				ins(api.Lea, 4, reg(r), o), ins(api.Mov, 1, low(r), o), ins(api.Mov, 4, o, reg(r)), ins(api.Cmp, 1, o, imm(disp&0xff)), ins(api.Adc, 4, o, imm(disp)), ins(api.Push, 4, o),
				ins(api.Jmp, 4, o), ins(api.Divd, 8, dbl(r), o), ins(api.Fromi, 4, dbl(r), o), ins(api.Movzx, 2, reg(r), o), times(reg(r), o, ^disp), on(r, ins(api.Setcc, 1, o)),
			} {
				written(t, i)
			}
		}
	}
}

// The numbers that one byte or two hold, signed or not, and those beyond.
func TestNumbers(t *testing.T) {
	c := charted()
	for _, from := range []uint32{0xfffffe00, 0xfffffffe, 0, 0xfe00, 0x10000, 0x7ffffe00, 0x80000000, 0xffff7e00} {
		for v := from; v != from+0x200; v++ {
			for _, i := range ofNumber(v) {
				c.held(t, i)
			}
		}
	}
}

// ofNumber answers an instruction of each row that has a number of its own, with that one, whether there is such a one or not.
func ofNumber(v uint32) []api.Instr {
	return []api.Instr{
		ins(api.Push, 4, imm(v)), times(reg(2), reg(3), v), ins(api.Or, 4, reg(0), imm(v)), ins(api.Xor, 4, reg(5), imm(v)), ins(api.Or, 1, low(0), imm(v)), ins(api.Sbb, 1, low(5), imm(v)),
		ins(api.Shl, 4, reg(1), imm(v)), ins(api.Jmp, 0, imm(v)), ins(api.Call, 0, imm(v)), on(int(v%16), ins(api.Jcc, 0, imm(v))), ins(api.Ret, 0, imm(v)),
		ins(api.Test, 1, low(0), imm(v)), ins(api.Test, 1, low(1), imm(v)), ins(api.Test, 4, reg(0), imm(v)), ins(api.Test, 4, reg(1), imm(v)),
		ins(api.Mov, 1, low(2), imm(v)), ins(api.Mov, 4, reg(2), imm(v)), ins(api.Mov, 1, mem(0, -1, 1, 0), imm(v)), ins(api.Mov, 4, mem(0, -1, 1, 0), imm(v)),
		ins(api.Mov, 4, reg(0), mem(-1, -1, 1, v)), ins(api.Mov, 1, mem(-1, -1, 1, v), low(0)),
	}
}

func TestLenSaysNothing(t *testing.T) {
	for _, i := range charted().kinds() {
		want := written(t, i)
		for _, n := range append(operands.Like(i.Len), -1, 0, 1, 2, 3, len(want)-1, len(want), len(want)+1, api.MaxInstr, api.MaxInstr+1) {
			i.Len = n
			if got := written(t, i); !slices.Equal(got, want) {
				t.Fatalf("P11.1: One(%+v): % x, not % x", i, got, want)
			}
		}
	}
	wrong := ins(api.Nop, 1)
	wrong.Len = 1
	refused(t, wrong)
}

// again asks that what is read of these bytes, if there is an instruction, be written.
func again(t *testing.T, b []byte) {
	t.Helper()
	if i, err := decode.One(b); err == api.OK {
		written(t, i)
	}
}

// tails: what may stand behind an opcode: numbers whose bytes all differ, ones that a sign changes, noughts.
func tails() [][]byte {
	return [][]byte{{0x81, 0x92, 0xa3, 0xb4, 0xc5, 0xd6, 0xe7, 0xf8, 0x89, 0x9a}, {0x7f, 0xff, 0xff, 0xff, 0xff, 0xff, 0xff, 0xff, 0xff, 0xff}, make([]byte, 10)}
}

func TestOneOfWhatIsRead(t *testing.T) {
	for first := range 256 {
		for second := range 256 {
			for _, tail := range tails() {
				again(t, append([]byte{byte(first), byte(second)}, tail...))
			}
		}
	}
}

func TestOneOfWhatIsReadBehindAnother(t *testing.T) {
	for _, ahead := range []string{"\x0f", "\xf2\x0f", "\x66\x0f", "\xf3"} {
		for first := range 256 {
			for second := range 256 {
				again(t, slices.Concat([]byte(ahead), []byte{byte(first), byte(second)}, tails()[second%3]))
			}
		}
	}
}

func TestOneOfAnyBytes(t *testing.T) {
	picks := rand.New(rand.NewSource(11))
	b := make([]byte, api.MaxInstr)
	for range 300000 {
		picks.Read(b)
		again(t, b)
	}
}

// Each answer is memory of its own.
func TestOneAnswersNewMemory(t *testing.T) {
	for _, i := range charted().kinds() {
		b := written(t, i)
		want, other := slices.Clone(b), written(t, i)
		clear(other[:cap(other)])
		if !slices.Equal(b, want) || !slices.Equal(written(t, i), want) {
			t.Fatalf("P11.1: One(%+v): two answers share memory", i)
		}
	}
}
