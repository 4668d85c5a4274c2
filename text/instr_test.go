package text_test

import (
	"fmt"
	"math"
	"math/rand"
	"slices"
	"strings"
	"testing"

	"saltern/api"
	"saltern/operands"
	"saltern/text"
)

// instr holds Instr against what it should be.
func instr(t *testing.T, i api.Instr, want string) {
	t.Helper()
	if got := text.Instr(i); got != want {
		t.Errorf("P12.2: Instr(%+v): %q, not %q", i, got, want)
	}
}

// ins: an instruction of these operands; the others aren't named.
func ins(op, size int, named ...api.Operand) api.Instr {
	all := append(named, none(), none())
	return api.Instr{Op: op, Size: size, A: all[0], B: all[1]}
}

// on: with this condition.
func on(c int, i api.Instr) api.Instr {
	i.Cond = c
	return i
}

// by: with this third number.
func by(v uint32, i api.Instr) api.Instr {
	i.C = v
	return i
}

// rep: repeated.
func rep(i api.Instr) api.Instr {
	i.Rep = true
	return i
}

// conditions: their names, in order of their numbers.
func conditions() []string {
	return strings.Fields("o no b ae e ne be a s ns p np l ge le g")
}

// wrongConds: numbers of no condition: about the ends, and ones that would pass for one by some of their bits.
func wrongConds() []int {
	all := []int{-1, -2, -15, -16, 16, 17, 31, 100}
	for c := range conditions() {
		for _, v := range operands.Like(c) {
			if v < 0 || v > 15 {
				all = append(all, v)
			}
		}
	}
	return all
}

// told answers what should be told of an operand.
func told(o api.Operand, size int) string {
	names := registers(o.Kind)
	switch {
	case o.Kind == api.Mem:
		return memory(o, size)
	case o.Kind == api.Imm:
		return fmt.Sprintf("0x%x", o.Disp)
	case names == nil:
		return ""
	case o.Reg < 0 || o.Reg > 7:
		return "?"
	}
	return names[o.Reg]
}

// written answers what Instr should, sentence by sentence of P12.2.
func written(i api.Instr) string {
	s := "?"
	if i.Op > 0 && i.Op < api.Ops {
		s = operations()[i.Op-1].name
	}
	if i.Rep {
		s = "rep " + s
	}
	a, b := i.Size, i.Size
	var third []string
	switch i.Op {
	case api.Jcc, api.Setcc, api.Cmov:
		if i.Cond >= 0 && i.Cond <= 15 {
			s += conditions()[i.Cond]
		}
	case api.Movs, api.Stos, api.Lods:
		s += map[bool]string{true: "b", false: "d"}[i.Size == 1]
	case api.Movzx, api.Movsx, api.Fromi, api.Toi:
		a = 4
	case api.Lea:
		a, b = 0, 0
	case api.Times:
		if i.Cond == 1 {
			third = append(third, fmt.Sprintf("0x%x", i.C))
		}
	}
	parts := slices.DeleteFunc([]string{told(i.A, a), told(i.B, b)}, func(s string) bool { return s == "" })
	if parts = append(parts, third...); len(parts) > 0 {
		s += " " + strings.Join(parts, ", ")
	}
	return s
}

func TestConditions(t *testing.T) {
	for c, name := range conditions() {
		instr(t, on(c, ins(api.Jcc, 0, imm(0xfffffffe))), "j"+name+" 0xfffffffe")
		instr(t, on(c, ins(api.Setcc, 1, low(7))), "set"+name+" bh")
		instr(t, on(c, ins(api.Cmov, 4, reg(6), mem(5, -1, 1, 8))), "cmov"+name+" esi, dword [ebp+0x8]")
	}
}

func TestWrongConditions(t *testing.T) {
	for _, c := range wrongConds() {
		instr(t, on(c, ins(api.Jcc, 0, imm(5))), "j 0x5")
		instr(t, on(c, ins(api.Setcc, 1, mem(0, -1, 1, 0))), "set byte [eax]")
		instr(t, on(c, ins(api.Cmov, 4, reg(1), reg(2))), "cmov ecx, edx")
		instr(t, on(c, ins(api.Jcc, 0)), "j")
	}
}

// Of other operations neither a condition, nor a third number, nor Len is told.
func TestWhatIsNotTold(t *testing.T) {
	for _, x := range operations() {
		if x.op == api.Jcc || x.op == api.Setcc || x.op == api.Cmov {
			continue
		}
		for c := -1; c <= 16; c++ {
			i := by(uint32(c+5), on(c, ins(x.op, 8, reg(1))))
			i.Len = c
			want := x.name + " ecx"
			switch {
			case x.op == api.Times && c == 1:
				want += ", 0x6"
			case x.op == api.Movs || x.op == api.Stos || x.op == api.Lods:
				want = x.name + "d ecx"
			}
			instr(t, i, want)
		}
	}
}

func TestRep(t *testing.T) {
	for _, x := range operations() {
		for size := range 9 {
			for _, i := range []api.Instr{ins(x.op, size), ins(x.op, size, low(3)), on(5, ins(x.op, size, mem(0, 1, 2, 3), imm(4)))} {
				instr(t, rep(i), "rep "+written(i))
			}
		}
	}
	instr(t, rep(ins(0, 0)), "rep ?")
	instr(t, rep(ins(api.Ops, 0, reg(0))), "rep ? eax")
	instr(t, rep(ins(api.Nop, 0)), "rep nop")
}

func TestRows(t *testing.T) {
	for _, x := range []operation{{api.Movs, "movs"}, {api.Stos, "stos"}, {api.Lods, "lods"}} {
		instr(t, ins(x.op, 1), x.name+"b")
		instr(t, rep(ins(x.op, 1)), "rep "+x.name+"b")
		for _, size := range sizes() {
			if size != 1 {
				instr(t, ins(x.op, size), x.name+"d")
				instr(t, rep(ins(x.op, size)), "rep "+x.name+"d")
			}
		}
		instr(t, ins(x.op, 1, mem(7, -1, 1, 0), mem(6, -1, 1, 0)), x.name+"b byte [edi], byte [esi]")
	}
}

func TestThirdOperand(t *testing.T) {
	for _, x := range []struct {
		i    api.Instr
		want string
	}{
		{by(5, on(1, ins(api.Times, 4, reg(0), reg(3)))), "imul eax, ebx, 0x5"}, {by(0, on(1, ins(api.Times, 4, reg(0), reg(3)))), "imul eax, ebx, 0x0"}, {by(0xffffffff, on(1, ins(api.Times, 4, reg(7), mem(4, -1, 1, 0)))), "imul edi, dword [esp], 0xffffffff"},
		{by(5, ins(api.Times, 4, reg(0), reg(3))), "imul eax, ebx"}, {by(0, ins(api.Times, 4, reg(0), reg(3))), "imul eax, ebx"}, {by(5, on(2, ins(api.Times, 4, reg(0), reg(3)))), "imul eax, ebx"}, {by(5, on(-1, ins(api.Times, 4, reg(0), reg(3)))), "imul eax, ebx"},
		{by(5, on(1, ins(api.Times, 4, reg(1)))), "imul ecx, 0x5"}, {by(5, on(1, ins(api.Times, 4, none(), reg(1)))), "imul ecx, 0x5"}, {by(5, on(1, ins(api.Times, 4))), "imul 0x5"}, {by(5, ins(api.Times, 4)), "imul"},
		{by(5, on(1, ins(api.Imul, 4, reg(1)))), "imul ecx"}, {by(5, on(1, ins(api.Mov, 4, reg(1), reg(2)))), "mov ecx, edx"}, {by(5, on(1, ins(api.Jcc, 0, imm(9)))), "jno 0x9"}, {by(5, on(1, ins(0, 0))), "?"},
	} {
		instr(t, x.i, x.want)
	}
	for _, v := range operands.Like(1) {
		instr(t, by(5, on(v, ins(api.Times, 4, reg(0), reg(3)))), "imul eax, ebx")
	}
	for _, v := range operands.Disps() {
		instr(t, by(v, on(1, ins(api.Times, 4, reg(2), reg(2)))), fmt.Sprintf("imul edx, edx, 0x%x", v))
	}
}

func TestOperandsThatAreNotThere(t *testing.T) {
	odd := api.Operand{Kind: api.Dbl + 1, Reg: 2, Base: 3, Index: 1, Scale: 2, Disp: 7}
	for _, x := range operations() {
		for size := range 9 {
			bare := written(ins(x.op, size))
			for _, nothing := range []api.Operand{none(), {}, odd} {
				instr(t, ins(x.op, size, nothing, nothing), bare)
				instr(t, ins(x.op, size, dbl(6), nothing), bare+" xmm6")
				instr(t, ins(x.op, size, nothing, dbl(6)), bare+" xmm6")
			}
			instr(t, ins(x.op, size, imm(1), low(4)), bare+" 0x1, ah")
			instr(t, ins(x.op, size, reg(8), low(-1)), bare+" ?, ?")
		}
	}
}

// Each operation with memory as A and as B, of each size.
func TestSizesByHand(t *testing.T) {
	ahead := map[int]string{1: "byte ", 2: "word ", 4: "dword ", 8: "qword "}
	at, to := mem(0, -1, 1, 0), mem(-1, -1, 1, 0x80)
	for _, x := range operations() {
		for _, size := range sizes() {
			i := ins(x.op, size, at, to)
			name := written(ins(x.op, size))
			switch x.op {
			case api.Movzx, api.Movsx, api.Fromi, api.Toi:
				instr(t, i, name+" dword [eax], "+ahead[size]+"[0x80]")
			case api.Lea:
				instr(t, i, "lea [eax], [0x80]")
			default:
				instr(t, i, name+" "+ahead[size]+"[eax], "+ahead[size]+"[0x80]")
			}
		}
	}
}

func TestWrongInstrs(t *testing.T) {
	instr(t, api.Instr{}, "?")
	instr(t, api.Instr{Cond: 4, Size: 1, C: 5, Len: 6}, "?")
	instr(t, api.Instr{Op: -1, A: reg(0), B: mem(1, -1, 1, 0), Size: 4}, "? eax, dword [ecx]")
	for _, op := range wrongOps() {
		instr(t, on(4, ins(op, 4)), "?")
		instr(t, by(2, on(1, ins(op, 4, mem(0, -1, 1, 0), imm(3)))), "? dword [eax], 0x3")
		instr(t, rep(on(1, ins(op, 1))), "rep ?")
	}
	for _, far := range []int{math.MinInt, -1, math.MaxInt} {
		o := api.Operand{Kind: far, Reg: far, Base: far, Index: far, Scale: far}
		instr(t, api.Instr{Op: far, Cond: far, Size: far, A: o, B: o, Len: far}, "?")
		for kind, want := range map[int]string{api.Reg: "?", api.Low: "?", api.Dbl: "?", api.Imm: "0x0", api.Mem: "[0x0]"} {
			o.Kind = kind
			instr(t, api.Instr{Op: api.Setcc, Cond: far, Size: far, A: o, B: o, Len: far}, "set "+want+", "+want)
		}
	}
}

// picked answers one of these, most often, or any number.
func picked(picks *rand.Rand, from, to int) int {
	switch picks.Intn(12) {
	case 0:
		return int(picks.Uint64())
	case 1:
		return from - 1 - picks.Intn(3)
	case 2:
		return to + picks.Intn(3)
	}
	return from + picks.Intn(to-from)
}

// anyOperand, anyInstr: each field on its own, as it may be or wrong.
func anyOperand(picks *rand.Rand) api.Operand {
	return api.Operand{
		Kind: picked(picks, api.None, api.Dbl+1), Reg: picked(picks, 0, 8), Base: picked(picks, -1, 8), Index: picked(picks, -1, 8), Scale: picked(picks, 0, 9),
		Disp: picks.Uint32() >> (picks.Intn(5) * 8),
	}
}

func anyInstr(picks *rand.Rand) api.Instr {
	return api.Instr{
		Op: picked(picks, api.Add, api.Ops), Cond: picked(picks, 0, 16), Size: picked(picks, 0, 9), A: anyOperand(picks), B: anyOperand(picks),
		C: picks.Uint32() >> (picks.Intn(5) * 8), Rep: picks.Intn(4) == 0, Len: picked(picks, 0, 16),
	}
}

func TestAnyInstr(t *testing.T) {
	picks := rand.New(rand.NewSource(12))
	for range 300000 {
		i := anyInstr(picks)
		instr(t, i, written(i))
		if got := text.Operand(i.A, i.Size); got != told(i.A, i.Size) {
			t.Errorf("P12.2: Operand(%+v, %d): %q, not %q", i.A, i.Size, got, told(i.A, i.Size))
		}
	}
}
