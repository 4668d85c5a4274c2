package encode

import (
	"slices"

	"saltern/api"
	"saltern/modrm"
)

// wide answers the lowest bit of an opcode that is one of two, by how many bytes the operands have.
func wide(size int) int {
	if size == 1 {
		return 0
	}
	return 1
}

// condition answers what an opcode can tell of one.
func condition(i api.Instr) int {
	return i.Cond & 15
}

// repeated answers what stands ahead of an opcode: F3, if it is to be.
func repeated(i api.Instr) int {
	if i.Rep {
		return 0xf300
	}
	return 0
}

// plain answers an opcode and what stands behind it.
func plain(opcode int, behind ...byte) []byte {
	return slices.Concat(spelled(opcode), behind)
}

// named answers an opcode that names a register, and what stands behind it.
func named(opcode int, r api.Operand, behind ...byte) []byte {
	return plain(opcode|r.Reg&7, behind...)
}

// placed answers an opcode, RM and reg, and what stands behind them; nothing, if there are no such RM and reg.
func placed(opcode, reg int, rm api.Operand, behind ...byte) []byte {
	switch rm.Kind {
	case api.Low, api.Dbl:
		rm.Kind = api.Reg // modrm knows only these; the opcode tells which ones are meant
	}
	b, err := modrm.Put(reg, rm)
	if err != api.OK {
		return nil
	}
	return slices.Concat(spelled(opcode), b, behind)
}

// spelled answers the bytes of an opcode: what stands ahead of it are its higher bytes.
func spelled(opcode int) []byte {
	var b []byte
	for at := 16; at > 0; at -= 8 {
		if opcode>>at != 0 {
			b = append(b, byte(opcode>>at))
		}
	}
	return append(b, byte(opcode))
}

// low answers a number's n lowest bytes, the lowest first.
func low(v uint32, n int) []byte {
	b := make([]byte, n)
	for k := range b {
		b[k] = byte(v >> (8 * k))
	}
	return b
}

// immediate answers B's number in as many bytes as the operands have.
func immediate(i api.Instr) []byte {
	if i.Size == 1 {
		return low(i.B.Disp, 1)
	}
	return low(i.B.Disp, 4)
}
