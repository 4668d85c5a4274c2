package decode

import (
	"saltern/api"
)

// part: how one operand is read. In the order of an instruction's operands their parts read its bytes in order.
type part func(r *reader, size int) api.Operand

// alone answers an operand of neither base nor index.
func alone(kind, reg int, number uint32) api.Operand {
	return api.Operand{Kind: kind, Reg: reg, Base: -1, Index: -1, Scale: 1, Disp: number}
}

// kind answers which registers have so many bytes. Two bytes are the lower half of one that has four.
func kind(size int) int {
	switch size {
	case 1:
		return api.Low
	case 8:
		return api.Dbl
	}
	return api.Reg
}

// place: RM.
func place(r *reader, size int) api.Operand {
	r.operands()
	o := r.rm
	if o.Kind == api.Reg {
		o.Kind = kind(size)
	}
	return o
}

// memory: RM, which may be no register.
func memory(r *reader, size int) api.Operand {
	o := place(r, size)
	if o.Kind != api.Mem {
		r.fail(api.ErrInstr)
	}
	return o
}

// register: reg.
func register(r *reader, size int) api.Operand {
	r.operands()
	return alone(kind(size), r.reg, 0)
}

// whole: reg, of four bytes whatever the size.
func whole(r *reader, _ int) api.Operand {
	return register(r, 4)
}

// double: reg, of eight bytes whatever the size.
func double(r *reader, _ int) api.Operand {
	return register(r, 8)
}

// named: the register that the opcode names.
func named(r *reader, size int) api.Operand {
	return alone(kind(size), r.opcode&7, 0)
}

// first: AL, EAX.
func first(_ *reader, size int) api.Operand {
	return alone(kind(size), api.EAX, 0)
}

// counter: CL.
func counter(_ *reader, _ int) api.Operand {
	return alone(api.Low, api.ECX, 0)
}

// fixed: [i32].
func fixed(r *reader, _ int) api.Operand {
	return alone(api.Mem, 0, r.number(4))
}

// number: i8, if the operands have one byte, else i32.
func number(r *reader, size int) api.Operand {
	n := 4
	if size == 1 {
		n = 1
	}
	return alone(api.Imm, 0, r.number(n))
}

// short: i8, signed.
func short(r *reader, _ int) api.Operand {
	return alone(api.Imm, 0, uint32(int8(r.number(1))))
}

// half: two bytes, not signed.
func half(r *reader, _ int) api.Operand {
	return alone(api.Imm, 0, r.number(2))
}

// once: an immediate 1, which has no bytes.
func once(_ *reader, _ int) api.Operand {
	return alone(api.Imm, 0, 1)
}
