package decode

import (
	"saltern/api"
)

// form: a row of P10.1's table: what an instruction is, and how each of its operands is read (nil: it isn't named).
type form struct {
	op, cond, size int
	a, b, c        part
	rep            bool
}

// nothing: the operation of bytes that are no instruction's.
const nothing = 0

// escape: the byte behind which a second table of opcodes begins.
const escape = 0x0f

// width answers how many bytes the operands have, by the opcode's lowest bit.
func width(opcode int) int {
	if opcode&1 == 0 {
		return 1
	}
	return 4
}

// condition answers which one an opcode tells.
func condition(opcode int) int {
	return opcode & 15
}

// form reads up to the last byte that tells which instruction it is.
func (r *reader) form() form {
	r.opcode = r.next()
	switch r.opcode {
	case escape:
		return after0F(r.next())
	case 0x66:
		return after66(r.escaped())
	case 0xf2:
		return afterF2(r.escaped())
	case 0xf3:
		return afterF3(r.next())
	case 0x80, 0x81, 0x83, 0x8f, 0xc1, 0xc6, 0xc7, 0xd1, 0xd3, 0xf6, 0xf7, 0xfe, 0xff:
		return grouped(r.opcode, r.member())
	}
	return octet(r.opcode)
}

// octet: opcodes of which eight that differ in the lowest three bits are alike; and the others.
func octet(opcode int) form {
	switch opcode >> 3 {
	case 0x00 >> 3, 0x08 >> 3, 0x10 >> 3, 0x18 >> 3, 0x20 >> 3, 0x28 >> 3, 0x30 >> 3, 0x38 >> 3:
		return reckoned(opcode)
	case 0x40 >> 3:
		return form{op: api.Inc, size: 4, a: named}
	case 0x48 >> 3:
		return form{op: api.Dec, size: 4, a: named}
	case 0x50 >> 3:
		return form{op: api.Push, size: 4, a: named}
	case 0x58 >> 3:
		return form{op: api.Pop, size: 4, a: named}
	case 0x70 >> 3, 0x78 >> 3:
		return form{op: api.Jcc, cond: condition(opcode), a: short}
	case 0xb0 >> 3:
		return form{op: api.Mov, size: 1, a: named, b: number}
	case 0xb8 >> 3:
		return form{op: api.Mov, size: 4, a: named, b: number}
	}
	return single(opcode)
}

// reckoned: 00 to 3F.
func reckoned(opcode int) form {
	f := form{op: api.Add + opcode>>3, size: width(opcode)}
	switch opcode & 7 {
	case 0, 1:
		f.a, f.b = place, register
	case 2, 3:
		f.a, f.b = register, place
	case 4, 5:
		f.a, f.b = first, number
	default:
		return form{}
	}
	return f
}

// single: opcodes each on its own that have operands; and the others.
func single(opcode int) form {
	size := width(opcode)
	switch opcode {
	case 0x68:
		return form{op: api.Push, size: 4, a: number}
	case 0x69:
		return form{op: api.Times, cond: 1, size: 4, a: register, b: place, c: number}
	case 0x6a:
		return form{op: api.Push, size: 4, a: short}
	case 0x6b:
		return form{op: api.Times, cond: 1, size: 4, a: register, b: place, c: short}
	case 0x84, 0x85:
		return form{op: api.Test, size: size, a: place, b: register}
	case 0x86, 0x87:
		return form{op: api.Xchg, size: size, a: place, b: register}
	case 0x88, 0x89:
		return form{op: api.Mov, size: size, a: place, b: register}
	case 0x8a, 0x8b:
		return form{op: api.Mov, size: size, a: register, b: place}
	case 0x8d:
		return form{op: api.Lea, size: 4, a: register, b: memory}
	case 0x91, 0x92, 0x93, 0x94, 0x95, 0x96, 0x97:
		return form{op: api.Xchg, size: 4, a: first, b: named}
	case 0xa0, 0xa1:
		return form{op: api.Mov, size: size, a: first, b: fixed}
	case 0xa2, 0xa3:
		return form{op: api.Mov, size: size, a: fixed, b: first}
	case 0xa8, 0xa9:
		return form{op: api.Test, size: size, a: first, b: number}
	case 0xc2:
		return form{op: api.Ret, a: half}
	case 0xe8:
		return form{op: api.Call, a: number}
	case 0xe9:
		return form{op: api.Jmp, a: number}
	case 0xeb:
		return form{op: api.Jmp, a: short}
	}
	return bare(opcode)
}

// bare: opcodes without operands.
func bare(opcode int) form {
	switch opcode {
	case 0x90:
		return form{op: api.Nop}
	case 0x98:
		return form{op: api.Cwde}
	case 0x99:
		return form{op: api.Cdq}
	case 0xa4, 0xa5:
		return form{op: api.Movs, size: width(opcode)}
	case 0xaa, 0xab:
		return form{op: api.Stos, size: width(opcode)}
	case 0xac, 0xad:
		return form{op: api.Lods, size: width(opcode)}
	case 0xc3:
		return form{op: api.Ret}
	case 0xc9:
		return form{op: api.Leave}
	case 0xcc:
		return form{op: api.Int3}
	case 0xf4:
		return form{op: api.Hlt}
	case 0xf5:
		return form{op: api.Cmc}
	case 0xf8:
		return form{op: api.Clc}
	case 0xf9:
		return form{op: api.Stc}
	case 0xfc:
		return form{op: api.Cld}
	case 0xfd:
		return form{op: api.Std}
	}
	return form{}
}

// grouped: opcodes of which reg tells more.
func grouped(opcode, reg int) form {
	f := form{op: chosen(opcode, reg), size: width(opcode), a: place}
	switch opcode {
	case 0x80, 0x81, 0xc6, 0xc7:
		f.b = number
	case 0x83, 0xc1:
		f.b = short
	case 0xd1:
		f.b = once
	case 0xd3:
		f.b = counter
	case 0xf6, 0xf7:
		if f.op == api.Test {
			f.b = number
		}
	}
	return f
}

// chosen answers which operation reg chooses; of a reg that isn't there the map answers nothing.
func chosen(opcode, reg int) int {
	switch opcode {
	case 0x80, 0x81, 0x83:
		return api.Add + reg
	case 0x8f:
		return map[int]int{0: api.Pop}[reg]
	case 0xc1, 0xd1, 0xd3:
		return map[int]int{0: api.Rol, 1: api.Ror, 4: api.Shl, 5: api.Shr, 7: api.Sar}[reg]
	case 0xc6, 0xc7:
		return map[int]int{0: api.Mov}[reg]
	case 0xf6:
		return map[int]int{0: api.Test, 2: api.Not, 3: api.Neg}[reg]
	case 0xf7:
		return map[int]int{0: api.Test, 2: api.Not, 3: api.Neg, 4: api.Mul, 5: api.Imul, 6: api.Div, 7: api.Idiv}[reg]
	case 0xfe:
		return map[int]int{0: api.Inc, 1: api.Dec}[reg]
	case 0xff:
		return map[int]int{0: api.Inc, 1: api.Dec, 2: api.Call, 4: api.Jmp, 6: api.Push}[reg]
	}
	return nothing
}

// after0F: opcodes behind 0F.
func after0F(opcode int) form {
	switch opcode >> 4 {
	case 0x4:
		return form{op: api.Cmov, cond: condition(opcode), size: 4, a: register, b: place}
	case 0x8:
		return form{op: api.Jcc, cond: condition(opcode), a: number}
	case 0x9:
		return form{op: api.Setcc, cond: condition(opcode), size: 1, a: place}
	}
	switch opcode {
	case 0xaf:
		return form{op: api.Times, size: 4, a: register, b: place}
	case 0xb6, 0xb7:
		return form{op: api.Movzx, size: 1 + opcode&1, a: whole, b: place}
	case 0xbe, 0xbf:
		return form{op: api.Movsx, size: 1 + opcode&1, a: whole, b: place}
	}
	return form{}
}

// after66: opcodes behind 66 0F.
func after66(opcode int) form {
	if opcode == 0x2e {
		return form{op: api.Ucomi, size: 8, a: register, b: place}
	}
	return form{}
}

// afterF2: opcodes behind F2 0F.
func afterF2(opcode int) form {
	switch opcode {
	case 0x11:
		return form{op: api.Movd, size: 8, a: place, b: register}
	case 0x2a:
		return form{op: api.Fromi, size: 4, a: double, b: place}
	case 0x2c:
		return form{op: api.Toi, size: 8, a: whole, b: place}
	}
	into := map[int]int{
		0x10: api.Movd, 0x51: api.Sqrtd, 0x58: api.Addd, 0x59: api.Muld,
		0x5c: api.Subd, 0x5d: api.Mind, 0x5e: api.Divd, 0x5f: api.Maxd,
	}
	return form{op: into[opcode], size: 8, a: register, b: place}
}

// afterF3: opcodes behind F3.
func afterF3(opcode int) form {
	switch opcode {
	case 0xa4, 0xa5, 0xaa, 0xab:
		f := bare(opcode)
		f.rep = true
		return f
	}
	return form{}
}
