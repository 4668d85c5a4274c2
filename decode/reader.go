package decode

import (
	"saltern/api"
	"saltern/modrm"
)

// reader: an instruction's bytes, from the first to the last. Its first error stays: what is read behind that is nought.
type reader struct {
	rest   []byte
	opcode int
	err    api.Errno
	told   bool // are rm and reg read?
	rm     api.Operand
	reg    int
}

// fail keeps an error, if it is the first.
func (r *reader) fail(err api.Errno) {
	if r.err == api.OK {
		r.err = err
	}
}

// number reads n bytes, the lowest first.
func (r *reader) number(n int) uint32 {
	if len(r.rest) < n {
		r.fail(api.ErrShort)
		return 0
	}
	v := uint32(0)
	for k, b := range r.rest[:n] {
		v |= uint32(b) << (8 * k)
	}
	r.rest = r.rest[n:]
	return v
}

// next reads an opcode.
func (r *reader) next() int {
	return int(r.number(1))
}

// escaped reads the opcode behind 0F, which must be there.
func (r *reader) escaped() int {
	if r.next() != escape {
		r.fail(api.ErrInstr)
	}
	return r.next()
}

// member looks at reg ahead of the operands: it may be that of no instruction, however few bytes they have.
func (r *reader) member() int {
	if len(r.rest) == 0 {
		r.fail(api.ErrShort)
		return 0
	}
	return int(r.rest[0] >> 3 & 7)
}

// operands reads RM and reg, for the first one that asks for them.
func (r *reader) operands() {
	if r.told {
		return
	}
	o, reg, n, err := modrm.Read(r.rest)
	r.fail(err)
	r.told, r.rm, r.reg = true, o, reg
	r.rest = r.rest[n:]
}

// operand reads an operand, or answers the one that isn't named.
func (r *reader) operand(p part, size int) api.Operand {
	if p == nil {
		return alone(api.None, 0, 0)
	}
	return p(r, size)
}
