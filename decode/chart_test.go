package decode

import (
	encoding "encoding/hex"
	"fmt"
	"slices"
	"strconv"
	"strings"

	"saltern/api"
	"saltern/modrm"
	"saltern/operands"
)

// chart: P10.1's table without its first row and that of 80, 81, 83. +r: eight opcodes, by a register; +c: sixteen, by a condition; /n: of that reg alone.
// Operands are named with their kinds: rm, reg, r of 8, of 32 bits or d, a double; m is memory alone; u: not signed. A third word of Times is C.
const chart = `
40+r     Inc 4 r32
48+r     Dec 4 r32
50+r     Push 4 r32
58+r     Pop 4 r32
68       Push 4 i32
69       Times 4 reg32 rm32 i32
6a       Push 4 i8
6b       Times 4 reg32 rm32 i8
70+c     Jcc 0 i8
84       Test 1 rm8 reg8
85       Test 4 rm32 reg32
86       Xchg 1 rm8 reg8
87       Xchg 4 rm32 reg32
88       Mov 1 rm8 reg8
89       Mov 4 rm32 reg32
8a       Mov 1 reg8 rm8
8b       Mov 4 reg32 rm32
8d       Lea 4 reg32 m
8f/0     Pop 4 rm32
90       Nop 0
91       Xchg 4 eax ecx
92       Xchg 4 eax edx
93       Xchg 4 eax ebx
94       Xchg 4 eax esp
95       Xchg 4 eax ebp
96       Xchg 4 eax esi
97       Xchg 4 eax edi
98       Cwde 0
99       Cdq 0
a0       Mov 1 al [i32]
a1       Mov 4 eax [i32]
a2       Mov 1 [i32] al
a3       Mov 4 [i32] eax
a4       Movs 1
a5       Movs 4
a8       Test 1 al u8
a9       Test 4 eax i32
aa       Stos 1
ab       Stos 4
ac       Lods 1
ad       Lods 4
b0+r     Mov 1 r8 u8
b8+r     Mov 4 r32 i32
c1/0     Rol 4 rm32 i8
c1/1     Ror 4 rm32 i8
c1/4     Shl 4 rm32 i8
c1/5     Shr 4 rm32 i8
c1/7     Sar 4 rm32 i8
c2       Ret 0 u16
c3       Ret 0
c6/0     Mov 1 rm8 u8
c7/0     Mov 4 rm32 i32
c9       Leave 0
cc       Int3 0
d1/0     Rol 4 rm32 1
d1/1     Ror 4 rm32 1
d1/4     Shl 4 rm32 1
d1/5     Shr 4 rm32 1
d1/7     Sar 4 rm32 1
d3/0     Rol 4 rm32 cl
d3/1     Ror 4 rm32 cl
d3/4     Shl 4 rm32 cl
d3/5     Shr 4 rm32 cl
d3/7     Sar 4 rm32 cl
e8       Call 0 i32
e9       Jmp 0 i32
eb       Jmp 0 i8
f4       Hlt 0
f5       Cmc 0
f6/0     Test 1 rm8 u8
f6/2     Not 1 rm8
f6/3     Neg 1 rm8
f7/0     Test 4 rm32 i32
f7/2     Not 4 rm32
f7/3     Neg 4 rm32
f7/4     Mul 4 rm32
f7/5     Imul 4 rm32
f7/6     Div 4 rm32
f7/7     Idiv 4 rm32
f8       Clc 0
f9       Stc 0
fc       Cld 0
fd       Std 0
fe/0     Inc 1 rm8
fe/1     Dec 1 rm8
ff/0     Inc 4 rm32
ff/1     Dec 4 rm32
ff/2     Call 4 rm32
ff/4     Jmp 4 rm32
ff/6     Push 4 rm32
0f40+c   Cmov 4 reg32 rm32
0f80+c   Jcc 0 i32
0f90+c   Setcc 1 rm8
0faf     Times 4 reg32 rm32
0fb6     Movzx 1 reg32 rm8
0fb7     Movzx 2 reg32 rm32
0fbe     Movsx 1 reg32 rm8
0fbf     Movsx 2 reg32 rm32
f3a4     Movs 1 rep
f3a5     Movs 4 rep
f3aa     Stos 1 rep
f3ab     Stos 4 rep
f20f10   Movd 8 regd rmd
f20f11   Movd 8 rmd regd
f20f2a   Fromi 4 regd rm32
f20f2c   Toi 8 reg32 rmd
f20f51   Sqrtd 8 regd rmd
f20f58   Addd 8 regd rmd
f20f59   Muld 8 regd rmd
f20f5c   Subd 8 regd rmd
f20f5d   Mind 8 regd rmd
f20f5e   Divd 8 regd rmd
f20f5f   Maxd 8 regd rmd
660f2e   Ucomi 8 regd rmd
`

// numbered: the operations in order of their numbers.
const numbered = "Add Or Adc Sbb And Sub Xor Cmp Test Not Neg Mul Imul Div Idiv Inc Dec Mov Movzx Movsx Lea Xchg Push Pop Times Rol Ror Shl Shr Sar Jcc Jmp Call Ret Setcc Cmov Cwde Cdq Hlt Int3 Clc Stc Cmc Cld Std Movs Stos Lods Leave Nop Movd Addd Muld Subd Mind Divd Maxd Sqrtd Fromi Toi Ucomi"

// entry: one row of the chart, of one opcode and one reg; has it an RM, and of memory alone?
type entry struct {
	op, cond, size, r int
	words             [3]string
	rep, rm, m        bool
}

// charted: all rows: by all bytes of the opcode, then by reg (-1: of each one).
type charted map[string]map[int]entry

// rows answers the whole table.
func rows() charted {
	all := charted{}
	lines := strings.Split(strings.TrimSpace(chart), "\n")
	for k, op := range strings.Fields(numbered)[:8] {
		for low, words := range []string{"1 rm8 reg8", "4 rm32 reg32", "1 reg8 rm8", "4 reg32 rm32", "1 al u8", "4 eax i32"} {
			lines = append(lines, hex(8*k+low)+" "+op+" "+words)
		}
		reg := "/" + strconv.Itoa(k) + " " + op
		lines = append(lines, "80"+reg+" 1 rm8 u8", "81"+reg+" 4 rm32 i32", "83"+reg+" 4 rm32 i8")
	}
	for _, line := range lines {
		all.add(strings.Fields(line))
	}
	return all
}

// add lays the opcodes of one line into the table.
func (all charted) add(line []string) {
	size, _ := strconv.Atoi(line[2])
	e := entry{op: 1 + slices.Index(strings.Fields(numbered), line[1]), size: size, rep: slices.Contains(line, "rep")}
	if !e.rep {
		copy(e.words[:], line[3:])
	}
	if e.words[2] != "" {
		e.cond = 1
	}
	e.m = slices.Contains(line, "m")
	e.rm = e.m || strings.Contains(strings.Join(line, " "), " rm")
	if code, reg, grouped := strings.Cut(line[0], "/"); grouped {
		r, _ := strconv.Atoi(reg)
		all.set(code, 0, r, e)
		return
	}
	code, plus, _ := strings.Cut(line[0], "+")
	for k := range map[string]int{"": 1, "r": 8, "c": 16}[plus] {
		own := e
		switch plus {
		case "r":
			own.r = k
		case "c":
			own.cond = k
		}
		all.set(code, k, -1, own)
	}
}

// set lays one entry into the table, at an opcode by k greater than the one that is written.
func (all charted) set(code string, k, reg int, e entry) {
	key := unhex(code)
	key[len(key)-1] += byte(k)
	if all[string(key)] == nil {
		all[string(key)] = map[int]entry{}
	}
	all[string(key)][reg] = e
}

// hex answers a byte's two digits.
func hex(v int) string {
	return fmt.Sprintf("%02x", v)
}

// unhex answers the bytes that are written, with or without blanks between.
func unhex(written string) []byte {
	b, err := encoding.DecodeString(strings.ReplaceAll(written, " ", ""))
	if err != nil {
		panic(err)
	}
	return b
}

// none, reg, low, dbl, imm, mem: operands as the chapter writes them.
var none, reg, low, dbl, imm, mem = operands.None, operands.Reg, operands.Low, operands.Dbl, operands.Imm, operands.Mem

// want answers what One should, by the chart.
func (all charted) want(b []byte) (api.Instr, api.Errno) {
	for n := 1; ; n++ {
		if len(b) < n {
			return api.Instr{}, api.ErrShort
		}
		if regs := all[string(b[:n])]; regs != nil {
			return chosenOf(regs, b[:n], b[n:])
		}
		// All opcodes of more than one byte begin so.
		if k := string(b[:n]); k != "\x0f" && k != "\xf3" && k != "\xf2" && k != "\xf2\x0f" && k != "\x66" && k != "\x66\x0f" {
			return api.Instr{}, api.ErrInstr
		}
	}
}

// chosenOf answers what One should of an opcode and what stands behind it.
func chosenOf(regs map[int]entry, code, rest []byte) (api.Instr, api.Errno) {
	e, found := regs[-1]
	if !found {
		if len(rest) == 0 {
			return api.Instr{}, api.ErrShort
		}
		if e, found = regs[int(rest[0])/8%8]; !found {
			return api.Instr{}, api.ErrInstr
		}
	}
	i := api.Instr{Op: e.op, Cond: e.cond, Size: e.size, A: none(), B: none(), Rep: e.rep}
	var place api.Operand
	var r, n int
	if e.m && len(rest) > 0 && rest[0] >= 0xc0 {
		return api.Instr{}, api.ErrInstr
	}
	if e.rm {
		var err api.Errno
		if place, r, n, err = modrm.Read(rest); err != api.OK {
			return api.Instr{}, err
		}
	}
	sum, used := uint32(0), 0
	for _, word := range e.words {
		if size := sizeOf(word); size > 0 {
			if len(rest) < n+size {
				return api.Instr{}, api.ErrShort
			}
			sum, used = total(rest[n:n+size], word == "i8"), size
		}
	}
	i.A = operandOf(e.words[0], e, place, r, sum)
	i.B = operandOf(e.words[1], e, place, r, sum)
	if e.words[2] != "" {
		i.C = sum
	}
	i.Len = len(code) + n + used
	return i, api.OK
}

// sizeOf answers how many bytes of its own a word's number has.
func sizeOf(word string) int {
	switch word {
	case "i8", "u8":
		return 1
	case "u16":
		return 2
	case "i32", "[i32]":
		return 4
	}
	return 0
}

// total answers the number that bytes tell, as a whole number, then of 32 bits.
func total(b []byte, signed bool) uint32 {
	v := int64(0)
	for i := len(b) - 1; i >= 0; i-- {
		v = v*256 + int64(b[i])
	}
	if signed && v >= 128 {
		v += 1<<32 - 256
	}
	return uint32(v)
}

// operandOf answers the operand that a word of the chart stands for.
func operandOf(word string, e entry, place api.Operand, r int, sum uint32) api.Operand {
	switch word {
	case "al":
		return low(0)
	case "cl":
		return low(1)
	case "1":
		return imm(1)
	case "i8", "u8", "u16", "i32":
		return imm(sum)
	case "[i32]":
		return mem(-1, -1, 1, sum)
	case "m":
		return place
	case "rm8", "rm32", "rmd":
		if place.Kind == api.Mem {
			return place
		}
		return ofBits(word[2:], place.Reg)
	case "reg8", "reg32", "regd":
		return ofBits(word[3:], r)
	case "r8", "r32":
		return ofBits(word[1:], e.r)
	case "":
		return none()
	}
	return reg(slices.Index([]string{"eax", "ecx", "edx", "ebx", "esp", "ebp", "esi", "edi"}, word))
}

// ofBits answers a register of so many bits, or a double's.
func ofBits(bits string, r int) api.Operand {
	switch bits {
	case "8":
		return low(r)
	case "d":
		return dbl(r)
	}
	return reg(r)
}
