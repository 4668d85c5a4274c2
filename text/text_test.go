package text_test

import (
	"fmt"
	"math"
	"slices"
	"strings"
	"testing"

	"saltern/api"
	"saltern/operands"
	"saltern/text"
)

// none .. mem: operands as the chapters write them.
var none, reg, low, dbl, imm, mem = operands.None, operands.Reg, operands.Low, operands.Dbl, operands.Imm, operands.Mem

// operation: its number, and its name.
type operation struct {
	op   int
	name string
}

// operations answers all of them, in order of their numbers.
func operations() []operation {
	return []operation{
		{api.Add, "add"}, {api.Or, "or"}, {api.Adc, "adc"}, {api.Sbb, "sbb"}, {api.And, "and"}, {api.Sub, "sub"}, {api.Xor, "xor"}, {api.Cmp, "cmp"}, {api.Test, "test"}, {api.Not, "not"}, {api.Neg, "neg"},
		{api.Mul, "mul"}, {api.Imul, "imul"}, {api.Div, "div"}, {api.Idiv, "idiv"}, {api.Inc, "inc"}, {api.Dec, "dec"}, {api.Mov, "mov"}, {api.Movzx, "movzx"}, {api.Movsx, "movsx"}, {api.Lea, "lea"},
		{api.Xchg, "xchg"}, {api.Push, "push"}, {api.Pop, "pop"}, {api.Times, "imul"}, {api.Rol, "rol"}, {api.Ror, "ror"}, {api.Shl, "shl"}, {api.Shr, "shr"}, {api.Sar, "sar"},
		{api.Jcc, "j"}, {api.Jmp, "jmp"}, {api.Call, "call"}, {api.Ret, "ret"}, {api.Setcc, "set"}, {api.Cmov, "cmov"}, {api.Cwde, "cwde"}, {api.Cdq, "cdq"}, {api.Hlt, "hlt"}, {api.Int3, "int3"},
		{api.Clc, "clc"}, {api.Stc, "stc"}, {api.Cmc, "cmc"}, {api.Cld, "cld"}, {api.Std, "std"}, {api.Movs, "movs"}, {api.Stos, "stos"}, {api.Lods, "lods"}, {api.Leave, "leave"}, {api.Nop, "nop"},
		{api.Movd, "movsd"}, {api.Addd, "addsd"}, {api.Muld, "mulsd"}, {api.Subd, "subsd"}, {api.Mind, "minsd"}, {api.Divd, "divsd"}, {api.Maxd, "maxsd"}, {api.Sqrtd, "sqrtsd"},
		{api.Fromi, "cvtsi2sd"}, {api.Toi, "cvttsd2si"}, {api.Ucomi, "ucomisd"},
	}
}

// operand holds Operand against what it should be.
func operand(t *testing.T, o api.Operand, size int, want string) {
	t.Helper()
	if got := text.Operand(o, size); got != want {
		t.Errorf("P12.2: Operand(%+v, %d): %q, not %q", o, size, got, want)
	}
}

// wrongOps: numbers of no operation: about the ends, and ones that would pass for one by some of their bits.
func wrongOps() []int {
	all := []int{math.MinInt, math.MaxInt}
	for far := range 100 {
		all = append(all, -far, api.Ops+far)
	}
	for op := range api.Ops {
		for _, v := range operands.Like(op) {
			if v < api.Add || v >= api.Ops {
				all = append(all, v)
			}
		}
	}
	return all
}

// sizes: of which memory has a word, others, and ones that would pass for one by some of their bits.
func sizes() []int {
	all := []int{math.MinInt, math.MaxInt}
	for size := -20; size <= 70; size++ {
		all = append(all, size)
	}
	for _, size := range []int{1, 2, 4, 8} {
		all = append(all, operands.Like(size)...)
	}
	return all
}

// beyond: numbers of no register: about the ends, and ones that would pass for one by some of their bits.
func beyond() []int {
	all := []int{8, 9, 10, 15, math.MaxInt}
	for r := range 8 {
		all = append(all, operands.Like(r)...)
		all = append(all, -1-r)
	}
	return all
}

func TestName(t *testing.T) {
	for k, x := range operations() {
		if x.op != 1+k {
			t.Fatalf("the test's own list: %s is %d, not %d", x.name, x.op, 1+k)
		}
		if got := text.Name(x.op); got != x.name {
			t.Errorf("P12.1: Name(%d): %q, not %q", x.op, got, x.name)
		}
	}
	if n := len(operations()); n != api.Ops-1 {
		t.Errorf("P12.1: %d operations, not %d", n, api.Ops-1)
	}
}

func TestNameOfOthers(t *testing.T) {
	for _, op := range wrongOps() {
		if got := text.Name(op); got != "?" {
			t.Errorf("P12.1: Name(%d): %q, not ?", op, got)
		}
	}
}

// registers answers the names of one Kind's registers.
func registers(kind int) []string {
	switch kind {
	case api.Reg:
		return strings.Fields("eax ecx edx ebx esp ebp esi edi")
	case api.Low:
		return strings.Fields("al cl dl bl ah ch dh bh")
	case api.Dbl:
		return strings.Fields("xmm0 xmm1 xmm2 xmm3 xmm4 xmm5 xmm6 xmm7")
	}
	return nil
}

// A register's Kind and number alone say which it is.
func TestRegisters(t *testing.T) {
	for _, kind := range []int{api.Reg, api.Low, api.Dbl} {
		for r, name := range registers(kind) {
			for _, size := range sizes() {
				operand(t, api.Operand{Kind: kind, Reg: r, Base: -1, Index: -1, Scale: 1}, size, name)
				operand(t, api.Operand{Kind: kind, Reg: r}, size, name)
				operand(t, api.Operand{Kind: kind, Reg: r, Base: 7 - r, Index: size, Scale: 8, Disp: 0x12}, size, name)
			}
		}
	}
}

func TestRegistersBeyond(t *testing.T) {
	for _, kind := range []int{api.Reg, api.Low, api.Dbl} {
		for _, r := range beyond() {
			for _, size := range []int{0, 1, 2, 4, 8, -1} {
				operand(t, api.Operand{Kind: kind, Reg: r, Base: -1, Index: -1, Scale: 1}, size, "?")
				operand(t, api.Operand{Kind: kind, Reg: r, Base: 3, Index: 2, Scale: 4, Disp: 5}, size, "?")
			}
		}
	}
}

func TestImmByHand(t *testing.T) {
	for _, x := range []struct {
		v    uint32
		want string
	}{
		{0, "0x0"}, {1, "0x1"}, {9, "0x9"}, {10, "0xa"}, {15, "0xf"}, {16, "0x10"}, {0x1b, "0x1b"}, {0x7f, "0x7f"}, {0x80, "0x80"}, {0xff, "0xff"}, {0x100, "0x100"}, {0xabc, "0xabc"}, {0x1002, "0x1002"}, {0x10000, "0x10000"}, {0xc0de0, "0xc0de0"},
		{0x500006, "0x500006"}, {0xe0f0000, "0xe0f0000"}, {0x12345678, "0x12345678"}, {0x7fffffff, "0x7fffffff"}, {0x80000000, "0x80000000"}, {0x90abcdef, "0x90abcdef"}, {0xf0000000, "0xf0000000"}, {0xffffffe0, "0xffffffe0"}, {0xffffffff, "0xffffffff"},
	} {
		operand(t, imm(x.v), 4, x.want)
	}
}

// Each digit at each place, and of all others that an operand has its Disp alone.
func TestImm(t *testing.T) {
	for place := range 8 {
		for digit := range uint32(16) {
			for _, low := range []uint32{0, 1, 0xfedcba98} {
				v := digit<<(4*place) | low&(1<<(4*place)-1)
				for _, size := range sizes() {
					operand(t, imm(v), size, fmt.Sprintf("0x%x", v))
				}
				operand(t, api.Operand{Kind: api.Imm, Reg: 7, Base: 3, Index: 2, Scale: 8, Disp: v}, 1, fmt.Sprintf("0x%x", v))
				operand(t, api.Operand{Kind: api.Imm, Reg: -1, Disp: v}, 8, fmt.Sprintf("0x%x", v))
			}
		}
	}
}

func TestMemoryByHand(t *testing.T) {
	for _, x := range []struct {
		o    api.Operand
		size int
		want string
	}{
		{mem(0, -1, 1, 0), 1, "byte [eax]"}, {mem(1, -1, 1, 0), 2, "word [ecx]"}, {mem(2, -1, 1, 0), 4, "dword [edx]"}, {mem(3, -1, 1, 0), 8, "qword [ebx]"},
		{mem(4, -1, 1, 0), 0, "[esp]"}, {mem(5, -1, 1, 0), 3, "[ebp]"}, {mem(6, -1, 1, 0), 5, "[esi]"}, {mem(7, -1, 1, 0), -1, "[edi]"}, {mem(7, -1, 1, 0), 16, "[edi]"},
		{mem(5, -1, 1, 0xfffffffc), 4, "dword [ebp+0xfffffffc]"}, {mem(4, -1, 1, 8), 4, "dword [esp+0x8]"}, {mem(0, -1, 1, 1), 1, "byte [eax+0x1]"},
		{mem(-1, -1, 1, 0), 4, "dword [0x0]"}, {mem(-1, -1, 1, 0x12345678), 4, "dword [0x12345678]"}, {mem(-1, -1, 1, 0), 0, "[0x0]"}, {mem(-1, -1, 1, 5), 7, "[0x5]"},
		{mem(0, 1, 1, 0), 4, "dword [eax+ecx]"}, {mem(0, 1, 2, 0), 4, "dword [eax+ecx*2]"}, {mem(0, 3, 4, 8), 4, "dword [eax+ebx*4+0x8]"}, {mem(4, 7, 8, 0x80), 8, "qword [esp+edi*8+0x80]"}, {mem(5, 5, 8, 0), 1, "byte [ebp+ebp*8]"},
		{mem(-1, 6, 1, 0), 2, "word [esi]"}, {mem(-1, 6, 8, 0), 2, "word [esi*8]"}, {mem(-1, 6, 2, 0x10), 2, "word [esi*2+0x10]"}, {mem(-1, 0, 1, 0x10), 2, "word [eax+0x10]"},
		{mem(0, 4, 2, 0), 4, "dword [eax+esp*2]"}, {mem(4, 4, 1, 0), 4, "dword [esp+esp]"}, // no bytes tell these, yet they have names
		{mem(0, -1, 8, 0), 4, "dword [eax]"}, {mem(-1, -1, 8, 0), 4, "dword [0x0]"}, {mem(-1, 8, 4, 2), 4, "dword [0x2]"}, // a scale of no index
		{mem(0, 1, 0, 0), 4, "dword [eax+ecx]"}, {mem(0, 1, -1, 0), 4, "dword [eax+ecx]"}, {mem(0, 1, -8, 1), 4, "dword [eax+ecx+0x1]"}, {mem(0, 1, 3, 0), 4, "dword [eax+ecx*3]"}, {mem(-1, 1, 10, 0), 4, "dword [ecx*10]"}, {mem(0, 1, 256, 0), 4, "dword [eax+ecx*256]"},
		{mem(8, -1, 1, 0), 4, "dword [0x0]"}, {mem(-2, 8, 2, 0), 4, "dword [0x0]"}, {mem(8, 2, 2, 0), 4, "dword [edx*2]"}, {mem(8, 2, 2, 3), 4, "dword [edx*2+0x3]"}, {mem(2, 8, 2, 3), 4, "dword [edx+0x3]"}, {mem(2, -2, 2, 0), 4, "dword [edx]"}, {mem(9, 9, 1, 7), 1, "byte [0x7]"},
		{api.Operand{Kind: api.Mem}, 4, "dword [eax+eax]"}, {api.Operand{Kind: api.Mem, Reg: 5, Base: 2, Index: -1, Scale: 1}, 4, "dword [edx]"}, {api.Operand{Kind: api.Mem, Reg: 8, Base: -1, Index: -1, Scale: 1}, 4, "dword [0x0]"},
	} {
		operand(t, x.o, x.size, x.want)
	}
}

// among: that register's name, if there is one.
func among(r int) []string {
	if r < 0 || r > 7 {
		return nil
	}
	return registers(api.Reg)[r : r+1]
}

// memory answers what should be told of memory.
func memory(o api.Operand, size int) string {
	words := map[int]string{1: "byte ", 2: "word ", 4: "dword ", 8: "qword "}
	parts := slices.Concat(among(o.Base), among(o.Index))
	if len(among(o.Index)) > 0 && o.Scale > 1 {
		parts[len(parts)-1] += fmt.Sprintf("*%d", o.Scale)
	}
	if len(parts) == 0 || o.Disp != 0 {
		parts = append(parts, fmt.Sprintf("0x%x", o.Disp))
	}
	return words[size] + "[" + strings.Join(parts, "+") + "]"
}

func TestMemoryOfEachBaseAndIndex(t *testing.T) {
	for base := -3; base < 11; base++ {
		for index := -3; index < 11; index++ {
			for _, scale := range []int{1, 2, 4, 8, 0, -1, -2, -4, 3, 5, 6, 7, 9, 10, 16, 100, math.MinInt, math.MaxInt} {
				for _, disp := range []uint32{0, 1, 0xf, 0x10, 0x7f, 0x80, 0x1002, 0x80000000, 0xffffffff} {
					for _, size := range []int{1, 2, 4, 8, 0, 3, 5, -1} {
						o := mem(base, index, scale, disp)
						operand(t, o, size, memory(o, size))
					}
				}
			}
		}
	}
}

func TestMemoryOfEachSize(t *testing.T) {
	for _, size := range sizes() {
		for _, o := range []api.Operand{mem(0, -1, 1, 0), mem(-1, -1, 1, 0), mem(-1, 3, 4, 5), mem(8, 8, 8, 8)} {
			operand(t, o, size, memory(o, size))
		}
	}
}

// Registers that there aren't, alone and beside those that there are; and scales that are far or that would pass for another by some of their bits.
func TestWrongMemory(t *testing.T) {
	for k, r := range beyond() {
		for _, disp := range []uint32{0, 9} {
			for _, o := range []api.Operand{mem(r, -1, 1, disp), mem(-1, r, 2, disp), mem(r, r, 4, disp), mem(r, k%8, 8, disp), mem(k%8, r, 8, disp)} {
				operand(t, o, 4, memory(o, 4))
			}
		}
	}
	for _, scale := range []int{1, 2, 4, 8} {
		for _, far := range operands.Like(scale) {
			for _, o := range []api.Operand{mem(0, 1, far, 0), mem(-1, 1, far, 0), mem(0, -1, far, 0), mem(-1, 8, far, 3)} {
				operand(t, o, 4, memory(o, 4))
			}
		}
	}
}

func TestOtherKinds(t *testing.T) {
	operand(t, none(), 4, "")
	operand(t, api.Operand{}, 0, "")
	kinds := []int{api.None, -1, -2, api.Dbl + 1, api.Dbl + 2, 7, 8, 100}
	for kind := range api.Dbl + 1 {
		kinds = append(kinds, operands.Like(kind)...)
	}
	for _, kind := range kinds {
		if api.None < kind && kind <= api.Dbl {
			continue
		}
		for _, size := range []int{0, 1, 2, 4, 8, -1} {
			operand(t, api.Operand{Kind: kind, Base: -1, Index: -1, Scale: 1}, size, "")
			operand(t, api.Operand{Kind: kind, Reg: 3, Base: 2, Index: 1, Scale: 4, Disp: 5}, size, "")
			operand(t, api.Operand{Kind: kind, Reg: -1, Disp: math.MaxUint32}, size, "")
		}
	}
}
