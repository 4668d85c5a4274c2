package alu_test

import (
	"math/big"
	"math/bits"
	"math/rand"
	"testing"

	"saltern/alu"
	"saltern/api"
	"saltern/instrs"
	"saltern/machines"
	"saltern/states"
)

// model: a machine on which an instruction is done in whole numbers, and how it ended as yet.
type model struct {
	machines.Machine
	i   api.Instr
	end int
}

// expected answers what is behind i, and the end.
func expected(m machines.Machine, i api.Instr) (machines.Machine, int) {
	x := &model{m.Clone(), i, api.Going}
	x.do()
	if x.end != api.Going {
		return m, x.end
	}
	return x.Machine, api.Going
}

// get answers an operand's lowest bytes.
func (x *model) get(o api.Operand, size int) int64 {
	v, ok := x.Load(o, size)
	if !ok {
		x.end = api.BadPlace
	}
	return int64(v)
}

// set stores in an operand.
func (x *model) set(o api.Operand, size int, v int64) {
	if !x.Store(o, size, uint64(v)) {
		x.end = api.BadPlace
	}
}

// signed: a number of so many bytes in two's complement.
func signed(v int64, size int) int64 {
	v %= 1 << (8 * size)
	if v >= 1<<(8*size-1) {
		v -= 1 << (8 * size)
	}
	return v
}

// seen lets Z, S, P tell what came of it.
func (x *model) seen(v int64, size int) {
	f := &x.State.F
	v &= 1<<(8*size) - 1
	f.Z, f.S, f.P = v == 0, signed(v, size) < 0, bits.OnesCount8(uint8(v))%2 == 0
}

// summed lets all flags but D tell of a sum, by what it is without signs and with them.
func (x *model) summed(plain, with int64, size int) {
	x.seen(plain, size)
	x.State.F.C = plain < 0 || plain >= 1<<(8*size)
	x.State.F.O = with != signed(with&(1<<(8*size)-1), size)
}

// over lets C and O tell whether a product didn't fit.
func (x *model) over(is bool) {
	x.State.F.C, x.State.F.O = is, is
}

func (x *model) do() {
	i, size := x.i, x.i.Size
	switch i.Op {
	case api.Mul, api.Imul, api.Div, api.Idiv:
		x.long()
	case api.Mov:
		x.set(i.A, size, x.get(i.B, size))
	case api.Movzx:
		x.set(i.A, 4, x.get(i.B, size))
	case api.Movsx:
		x.set(i.A, 4, signed(x.get(i.B, size), size))
	case api.Lea:
		x.set(i.A, size, int64(machines.Sum(x.State, i.B)))
	case api.Cmov:
		if v := x.get(i.B, size); conditions(x.State.F)[i.Cond] {
			x.set(i.A, size, v)
		}
	case api.Setcc:
		x.set(i.A, size, map[bool]int64{true: 1}[conditions(x.State.F)[i.Cond]])
	case api.Times:
		x.times()
	case api.Cwde, api.Cdq, api.Clc, api.Stc, api.Cmc, api.Cld, api.Std, api.Nop:
		x.bare()
	default:
		x.usual(x.get(i.A, size))
	}
}

// usual: operations that load A, and mostly B.
func (x *model) usual(a int64) {
	i, size, f := x.i, x.i.Size, &x.State.F
	carry := map[bool]int64{true: 1}[f.C]
	b, v := x.get(i.B, size), a
	switch i.Op {
	case api.Add, api.Adc:
		if i.Op == api.Add {
			carry = 0
		}
		v = a + b + carry
		x.summed(v, signed(a, size)+signed(b, size)+carry, size)
	case api.Sub, api.Sbb, api.Cmp, api.Neg:
		if i.Op == api.Neg {
			a, b = 0, a
		}
		if i.Op != api.Sbb {
			carry = 0
		}
		v = a - b - carry
		x.summed(v, signed(a, size)-signed(b, size)-carry, size)
	case api.Inc, api.Dec:
		by, c := map[int]int64{api.Inc: 1, api.Dec: -1}[i.Op], f.C
		v = a + by
		x.summed(v, signed(a, size)+by, size)
		f.C = c
	case api.And, api.Test, api.Or, api.Xor:
		v = map[int]int64{api.And: a & b, api.Test: a & b, api.Or: a | b, api.Xor: a ^ b}[i.Op]
		x.summed(v, signed(v, size), size)
	case api.Not:
		v = 1<<(8*size) - 1 - a
	case api.Xchg:
		x.set(i.A, size, b)
		x.set(i.B, size, a)
		return
	default:
		v = x.moved(a, b)
	}
	if i.Op != api.Cmp && i.Op != api.Test {
		x.set(i.A, size, v)
	}
}

// moved answers a number of 32 bits moved by a place at a time.
func (x *model) moved(v, n int64) int64 {
	f, was := &x.State.F, v
	if n%32 == 0 {
		return v
	}
	const top = 1 << 31
	for range n % 32 {
		switch x.i.Op {
		case api.Rol:
			f.C = v >= top
			v = v%top*2 + v/top
		case api.Ror:
			f.C = v%2 == 1
			v = v/2 + v%2*top
		case api.Shl:
			f.C = v >= top
			v = v % top * 2
		case api.Shr:
			f.C = v%2 == 1
			v /= 2
		case api.Sar:
			f.C = v%2 == 1
			v = v/2 + v/top*top
		}
	}
	f.O = map[int]bool{api.Rol: (v >= top) != f.C, api.Shl: (v >= top) != f.C, api.Shr: was >= top, api.Sar: false, api.Ror: v/(top/2) == 1 || v/(top/2) == 2}[x.i.Op]
	if x.i.Op == api.Shl || x.i.Op == api.Shr || x.i.Op == api.Sar {
		x.seen(v, 4)
	}
	return v
}

// long: Mul, Imul, Div, Idiv, as whole numbers of any length.
func (x *model) long() {
	r, by := &x.State.R, x.get(x.i.A, 4)
	whole := big.NewInt(int64(r[api.EAX]))
	if x.i.Op == api.Mul || x.i.Op == api.Imul {
		if x.i.Op == api.Imul {
			whole, by = big.NewInt(signed(int64(r[api.EAX]), 4)), signed(by, 4)
		}
		whole.Mul(whole, big.NewInt(by))
		low := new(big.Int).And(whole, big.NewInt(1<<32-1))
		high := new(big.Int).Rsh(whole, 32)
		x.over(high.Sign() != 0)
		if x.i.Op == api.Imul {
			x.over(!whole.IsInt64() || whole.Int64() != int64(int32(whole.Int64())))
		}
		r[api.EAX], r[api.EDX] = uint32(low.Uint64()), uint32(high.And(high, big.NewInt(1<<32-1)).Uint64())
		return
	}
	least, most := big.NewInt(0), big.NewInt(1<<32-1)
	high := int64(r[api.EDX])
	if x.i.Op == api.Idiv {
		high, by = signed(high, 4), signed(by, 4)
		least, most = big.NewInt(-1<<31), big.NewInt(1<<31-1)
	}
	whole.Add(whole, new(big.Int).Lsh(big.NewInt(high), 32))
	if x.end != api.Going {
		return
	}
	if by == 0 {
		x.end = api.BadDivide
		return
	}
	quotient, rest := new(big.Int).QuoRem(whole, big.NewInt(by), new(big.Int))
	if quotient.Cmp(least) < 0 || quotient.Cmp(most) > 0 {
		x.end = api.BadDivide
		return
	}
	r[api.EAX], r[api.EDX] = uint32(quotient.Int64()), uint32(rest.Int64())
}

func (x *model) times() {
	a, b := x.i.A, x.i.B
	v := signed(x.get(b, 4), 4)
	if x.i.Cond == 1 {
		v *= signed(int64(x.i.C), 4)
	} else {
		v *= signed(x.get(a, 4), 4)
	}
	x.over(v < -1<<31 || v >= 1<<31)
	x.set(a, 4, v&(1<<32-1))
}

// bare: what has no operands.
func (x *model) bare() {
	f, r := &x.State.F, &x.State.R
	switch x.i.Op {
	case api.Cwde:
		r[api.EAX] = uint32(signed(int64(r[api.EAX])%(1<<16), 2))
	case api.Cdq:
		r[api.EDX] = map[bool]uint32{true: 0xffffffff}[r[api.EAX] >= 1<<31]
	case api.Clc, api.Stc:
		f.C = x.i.Op == api.Stc
	case api.Cmc:
		f.C = !f.C
	case api.Cld, api.Std:
		f.D = x.i.Op == api.Std
	}
}

// each answers all instructions of the chapter, as decode.One tells them.
func each() []api.Instr { return instrs.Of(alu.Is) }

// size: how many bytes data has in what follows.
const size = 24

// Each instruction at each of these places, all that it changes and that it doesn't.
func TestEachInstruction(t *testing.T) {
	all := states.All()
	for k, i := range each() {
		s := all[k%4]
		m := machines.New(s, machines.Open(api.DataAt, size))
		off := machines.Offs(size)[k/3%2]
		i = machines.Aim(s, i, off)
		want, end := expected(m, i)
		done(t, "P15.2", m, i, want, end)
	}
}

// shapes: of each operation, Size and kinds of operands one.
func shapes() []api.Instr {
	var all []api.Instr
	seen := map[[6]int]int{}
	for _, i := range each() {
		like := [6]int{i.Op, i.Cond, i.Size, i.A.Kind, i.B.Kind}
		if seen[like]++; seen[like] == 3 || i.A.Kind != api.Mem && i.B.Kind != api.Mem && seen[like] == 20 || i.A.Kind == api.None {
			all = append(all, i)
		}
	}
	return all
}

// Each shape at each place, of data that may be read and written, one of them, neither, or that isn't Right.
func TestFails(t *testing.T) {
	for k, i := range shapes() {
		for _, data := range machines.Shut(size) {
			for n, off := range machines.Offs(size) {
				s := states.All()[(k+n)%4]
				m := machines.New(s, data)
				j := machines.Aim(s, i, off)
				want, end := expected(m, j)
				done(t, "P15.3", m, j, want, end)
			}
		}
	}
}

// edges: numbers about those where flags turn.
func edges() []uint32 {
	return []uint32{0, 1, 2, 31, 32, 33, 0x7e, 0x7f, 0x80, 0x81, 0xff, 0x100, 0x7fff, 0x8000, 0xffff, 0x10000, 0x7f80, 0x80ff, 0x7ffffffe, 0x7fffffff, 0x80000000, 0x80000001, 0xffff8000, 0xffffff7f, 0xffffff80, 0xfffffffe, 0xffffffff}
}

// Each shape with numbers about the edges, of all flags, by an order that is the same again and again.
func TestNumbers(t *testing.T) {
	r := rand.New(rand.NewSource(15))
	pick := func() uint32 {
		if v := r.Intn(len(edges()) + 6); v < len(edges()) {
			return edges()[v]
		}
		return r.Uint32() >> r.Intn(32)
	}
	for _, i := range shapes() {
		for range 40 {
			s := states.Full()
			for k := range s.R {
				s.R[k] = pick()
			}
			s.F = api.Flags{C: r.Intn(2) > 0, P: r.Intn(2) > 0, Z: r.Intn(2) > 0, S: r.Intn(2) > 0, O: r.Intn(2) > 0, D: r.Intn(2) > 0}
			m := machines.New(s, machines.Open(api.DataAt, size))
			m.StoreAt(5, 4, uint64(pick()))
			j := machines.Aim(s, i, 5)
			if j.B.Kind == api.Imm && j.Size == 4 {
				j.B.Disp = pick()
			}
			want, end := expected(m, j)
			done(t, "P15.2", m, j, want, end)
		}
	}
}

// IP, doubles and Len are no matter, whatever they are.
func TestNothingElse(t *testing.T) {
	for _, i := range shapes() {
		for _, n := range []int{-1, 0, 1, 15, 1 << 40} {
			s := states.Full()
			i.Len, s.IP, s.X = n, uint32(n), [8]uint64{}
			m := machines.New(s, machines.Open(api.DataAt, size))
			j := machines.Aim(s, i, 5)
			want, end := expected(m, j)
			done(t, "P15.1", m, j, want, end)
			if want.State.IP != s.IP || want.State.X != s.X {
				t.Errorf("P15.1: the model's %+v", want.State)
			}
		}
	}
}

// An address in a register that the instruction changes is what it was, be it one of the second operand, which decode.One doesn't tell.
func TestAddressesAreThoseOfBefore(t *testing.T) {
	m := told(t, "ebx=4 m=00000000aabbccdd")
	want := told(t, "ebx=ddccbbaa m=0000000004000000")
	i := instrs.One("87 1b")
	done(t, "P15.1", m, i, want, api.Going)
	i.A, i.B = i.B, i.A
	done(t, "P15.1", m, i, want, api.Going)
}
