package encode

import (
	"saltern/api"
)

// spellings answers the bytes that instructions of this operation have by P10.1's table, with what i's fields put there, the shorter ahead of the longer. Which of them are i's, decode tells.
func spellings(i api.Instr) [][]byte {
	w := wide(i.Size)
	switch i.Op {
	case api.Add, api.Or, api.Adc, api.Sbb, api.And, api.Sub, api.Xor, api.Cmp:
		return reckoned(i, i.Op-api.Add)
	case api.Test:
		return [][]byte{
			placed(0x84|w, i.B.Reg, i.A),
			plain(0xa8|w, immediate(i)...),
			placed(0xf6|w, 0, i.A, immediate(i)...),
		}
	case api.Not, api.Neg, api.Mul, api.Imul, api.Div, api.Idiv:
		return [][]byte{placed(0xf6|w, 2+i.Op-api.Not, i.A)}
	case api.Inc, api.Dec:
		reg := i.Op - api.Inc
		return [][]byte{named(0x40|reg<<3, i.A), placed(0xfe|w, reg, i.A)}
	case api.Rol:
		return shifted(i, 0)
	case api.Ror:
		return shifted(i, 1)
	case api.Shl:
		return shifted(i, 4)
	case api.Shr:
		return shifted(i, 5)
	case api.Sar:
		return shifted(i, 7)
	}
	return moved(i)
}

// reckoned: the operations that eight opcodes, or eight regs, tell one from another.
func reckoned(i api.Instr, reg int) [][]byte {
	opcode := reg<<3 | wide(i.Size)
	return [][]byte{
		placed(opcode, i.B.Reg, i.A),
		placed(opcode|2, i.A.Reg, i.B),
		placed(0x83, reg, i.A, low(i.B.Disp, 1)...),
		plain(opcode|4, immediate(i)...),
		placed(0x80|wide(i.Size), reg, i.A, immediate(i)...),
	}
}

// shifted: by 1, by CL, by a number.
func shifted(i api.Instr, reg int) [][]byte {
	return [][]byte{
		placed(0xd1, reg, i.A),
		placed(0xd3, reg, i.A),
		placed(0xc1, reg, i.A, low(i.B.Disp, 1)...),
	}
}

// moved: operations that lay something elsewhere, by rows of several kinds; and the others.
func moved(i api.Instr) [][]byte {
	w := wide(i.Size)
	switch i.Op {
	case api.Mov:
		return [][]byte{
			named(0xb0|w<<3, i.A, immediate(i)...),
			plain(0xa0|w, low(i.B.Disp, 4)...),
			plain(0xa2|w, low(i.A.Disp, 4)...),
			placed(0x88|w, i.B.Reg, i.A),
			placed(0x8a|w, i.A.Reg, i.B),
			placed(0xc6|w, 0, i.A, immediate(i)...),
		}
	case api.Xchg:
		return [][]byte{named(0x90, i.B), placed(0x86|w, i.B.Reg, i.A)}
	case api.Push:
		return [][]byte{
			named(0x50, i.A),
			plain(0x6a, low(i.A.Disp, 1)...),
			plain(0x68, low(i.A.Disp, 4)...),
			placed(0xff, 6, i.A),
		}
	case api.Pop:
		return [][]byte{named(0x58, i.A), placed(0x8f, 0, i.A)}
	case api.Times:
		return [][]byte{
			placed(0x0faf, i.A.Reg, i.B),
			placed(0x6b, i.A.Reg, i.B, low(i.C, 1)...),
			placed(0x69, i.A.Reg, i.B, low(i.C, 4)...),
		}
	case api.Movd:
		return [][]byte{placed(0xf20f10, i.A.Reg, i.B), placed(0xf20f11, i.B.Reg, i.A)}
	}
	return led(i)
}

// led: operations that say where it goes on, and Setcc; and the others.
func led(i api.Instr) [][]byte {
	switch i.Op {
	case api.Jcc:
		return [][]byte{
			plain(0x70|condition(i), low(i.A.Disp, 1)...),
			plain(0x0f80|condition(i), low(i.A.Disp, 4)...),
		}
	case api.Jmp:
		return [][]byte{
			plain(0xeb, low(i.A.Disp, 1)...),
			plain(0xe9, low(i.A.Disp, 4)...),
			placed(0xff, 4, i.A),
		}
	case api.Call:
		return [][]byte{plain(0xe8, low(i.A.Disp, 4)...), placed(0xff, 2, i.A)}
	case api.Ret:
		return [][]byte{plain(0xc3), plain(0xc2, low(i.A.Disp, 2)...)}
	case api.Setcc:
		return [][]byte{placed(0x0f90|condition(i), 0, i.A)}
	}
	return single(i)
}

// single: operations of one row alone, of which A is reg and B is RM, or which have no operands.
func single(i api.Instr) [][]byte {
	if opcode := into(i); opcode != nothing {
		return [][]byte{placed(opcode, i.A.Reg, i.B)}
	}
	if opcode := bare(i); opcode != nothing {
		return [][]byte{plain(opcode)}
	}
	return nil
}

// nothing: the opcode of an operation that has none. (00 is one of those of Add, which has several.)
const nothing = 0

// into answers the opcode of an operation whose one row is that of reg, RM.
func into(i api.Instr) int {
	switch i.Op {
	case api.Lea:
		return 0x8d
	case api.Cmov:
		return 0x0f40 | condition(i)
	case api.Movzx:
		return 0x0fb6 | wide(i.Size)
	case api.Movsx:
		return 0x0fbe | wide(i.Size)
	case api.Fromi:
		return 0xf20f2a
	case api.Toi:
		return 0xf20f2c
	case api.Sqrtd:
		return 0xf20f51
	case api.Addd:
		return 0xf20f58
	case api.Muld:
		return 0xf20f59
	case api.Subd:
		return 0xf20f5c
	case api.Mind:
		return 0xf20f5d
	case api.Divd:
		return 0xf20f5e
	case api.Maxd:
		return 0xf20f5f
	case api.Ucomi:
		return 0x660f2e
	}
	return nothing
}

// bare answers the opcode of an operation without operands.
func bare(i api.Instr) int {
	switch i.Op {
	case api.Nop:
		return 0x90
	case api.Cwde:
		return 0x98
	case api.Cdq:
		return 0x99
	case api.Movs:
		return repeated(i) | 0xa4 | wide(i.Size)
	case api.Stos:
		return repeated(i) | 0xaa | wide(i.Size)
	case api.Lods:
		return 0xac | wide(i.Size)
	case api.Leave:
		return 0xc9
	case api.Int3:
		return 0xcc
	case api.Hlt:
		return 0xf4
	case api.Cmc:
		return 0xf5
	case api.Clc:
		return 0xf8
	case api.Stc:
		return 0xf9
	case api.Cld:
		return 0xfc
	case api.Std:
		return 0xfd
	}
	return nothing
}
