package alu

import (
	"saltern/addr"
	"saltern/api"
	"saltern/arith"
	"saltern/cond"
	"saltern/muldiv"
	"saltern/shift"
)

// reckon: P15.2. Nothing is done of an operation that Is doesn't tell.
func (d *doing) reckon() {
	switch d.Op {
	case api.Add, api.Adc, api.Sub, api.Sbb, api.Cmp:
		d.sum()
	case api.And, api.Or, api.Xor, api.Test:
		d.logic()
	case api.Not:
		d.put(^d.first())
	case api.Neg:
		d.keep(arith.Sub(0, d.first(), d.Size, false))
	case api.Inc:
		d.keep(arith.Step(d.state.F, d.first(), d.Size, 1))
	case api.Dec:
		d.keep(arith.Step(d.state.F, d.first(), d.Size, -1))
	case api.Mul, api.Imul:
		d.product()
	case api.Div, api.Idiv:
		d.quotient()
	case api.Times:
		d.times()
	case api.Rol, api.Ror, api.Shl, api.Shr, api.Sar:
		a, b := d.both()
		d.keep(shift.Do(d.Op, d.state.F, a, b))
	case api.Clc, api.Stc, api.Cmc, api.Cld, api.Std:
		d.mark()
	default:
		d.move()
	}
}

// move: what goes from one place to another and changes no flags.
func (d *doing) move() {
	r := &d.state.R
	switch d.Op {
	case api.Mov:
		d.put(d.second())
	case api.Movzx:
		d.store(d.A, whole, d.second())
	case api.Movsx:
		d.store(d.A, whole, spread(d.second(), d.Size))
	case api.Lea:
		d.put(addr.Of(d.state, d.B))
	case api.Xchg:
		a, b := d.both()
		d.put(b)
		d.store(d.B, d.Size, a)
	case api.Setcc:
		d.put(d.held())
	case api.Cmov:
		if v := d.second(); d.held() != 0 {
			d.put(v)
		}
	case api.Cwde:
		r[api.EAX] = spread(r[api.EAX], whole/2)
	case api.Cdq:
		r[api.EDX] = -(r[api.EAX] >> 31)
	}
}

// sum: Add, Adc, Sub, Sbb, Cmp.
func (d *doing) sum() {
	a, b := d.both()
	switch c := d.state.F.C; d.Op {
	case api.Add:
		d.keep(arith.Add(a, b, d.Size, false))
	case api.Adc:
		d.keep(arith.Add(a, b, d.Size, c))
	case api.Sub:
		d.keep(arith.Sub(a, b, d.Size, false))
	case api.Sbb:
		d.keep(arith.Sub(a, b, d.Size, c))
	case api.Cmp:
		_, f := arith.Sub(a, b, d.Size, false)
		d.tell(f)
	}
}

// logic: And, Or, Xor, Test.
func (d *doing) logic() {
	a, b := d.both()
	bits := map[int]uint32{api.And: a & b, api.Or: a | b, api.Xor: a ^ b, api.Test: a & b}
	v, f := arith.Logic(bits[d.Op], d.Size)
	if d.Op != api.Test {
		d.put(v)
	}
	d.tell(f)
}

// product: Mul, Imul.
func (d *doing) product() {
	multiply := muldiv.Mul
	if d.Op == api.Imul {
		multiply = muldiv.Imul
	}
	r := &d.state.R
	hi, lo, f := multiply(d.state.F, r[api.EAX], d.first())
	r[api.EDX], r[api.EAX] = hi, lo
	d.tell(f)
}

// quotient: Div, Idiv.
func (d *doing) quotient() {
	divide := muldiv.Div
	if d.Op == api.Idiv {
		divide = muldiv.Idiv
	}
	r := &d.state.R
	quotient, rest, ok := divide(r[api.EDX], r[api.EAX], d.first())
	if !ok {
		panic(fault(api.BadDivide))
	}
	r[api.EAX], r[api.EDX] = quotient, rest
}

// times: Times, of which Cond tells whether A is only written.
func (d *doing) times() {
	var a, b uint32
	if d.Cond == 1 {
		a, b = d.second(), d.C
	} else {
		a, b = d.both()
	}
	_, lo, f := muldiv.Imul(d.state.F, a, b)
	d.keep(lo, f)
}

// mark: Clc, Stc, Cmc, Cld, Std.
func (d *doing) mark() {
	f := &d.state.F
	switch d.Op {
	case api.Clc:
		f.C = false
	case api.Stc:
		f.C = true
	case api.Cmc:
		f.C = !f.C
	case api.Cld:
		f.D = false
	case api.Std:
		f.D = true
	}
}

// held answers 1 if Cond holds, else 0.
func (d *doing) held() uint32 {
	if cond.Holds(d.Cond, d.state.F) {
		return 1
	}
	return 0
}

// spread: v's lowest bytes, so many, with their sign in all of 32 bits.
func spread(v uint32, size int) uint32 {
	return uint32(arith.Signed(v, size))
}
