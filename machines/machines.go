// Package machines: machines as the tests of the layers reckon them: a state, and data byte by byte.
package machines

import (
	"maps"
	"slices"

	"saltern/api"
	"saltern/bus"
	"saltern/mem"
)

// around: how many bytes before data and behind it are other than nought.
const around = 40

// code: a segment in which all may be done, though no data stands there.
const code = 0x40000000

// Open answers a segment that may be read and written, but not run.
func Open(base, size uint32) api.Seg {
	return api.Seg{Base: base, Size: size, R: true, W: true}
}

// Machine: a state, the data segment, and the bytes that stand in it.
type Machine struct {
	State api.State
	Seg   api.Seg
	Data  []byte
}

// New answers a machine whose data has no nought.
func New(s api.State, data api.Seg) Machine {
	m := Machine{State: s, Seg: data}
	for i := range data.Size {
		m.Data = append(m.Data, filler(i))
	}
	return m
}

// filler: what stands at a place of data at first, and about it always.
func filler(i uint32) byte {
	return byte(i%119*2 + 17)
}

// Clone answers the same machine with bytes of its own.
func (m Machine) Clone() Machine {
	m.Data = slices.Clone(m.Data)
	return m
}

// Bus answers a bus of such data, with bytes about it, and with a code segment elsewhere.
func (m Machine) Bus() *bus.Bus {
	memory := mem.New()
	for i := uint32(0); i < around; i++ {
		memory.Set(m.Seg.Base-1-i, filler(i))
		memory.Set(m.Seg.Base+m.Seg.Size+i, filler(i))
	}
	memory.Write(code, []byte{0xc1, 0xc2, 0xc3, 0xc4, 0xc5, 0xc6, 0xc7, 0xc8})
	memory.Write(m.Seg.Base, m.Data)
	return bus.New(memory, api.Seg{Base: code, Size: around, R: true, W: true, X: true}, m.Seg)
}

// Alike: have two buses the same segments and the same bytes in all of memory?
func Alike(a, b *bus.Bus) bool {
	codeA, dataA := a.Segs()
	codeB, dataB := b.Segs()
	return codeA == codeB && dataA == dataB && maps.Equal(held(a.Memory()), held(b.Memory()))
}

// held answers all the bytes that a memory has, by the place where each page begins.
func held(m *mem.Memory) map[uint32][api.Page]byte {
	all := map[uint32][api.Page]byte{}
	for _, begin := range m.Pages() {
		all[begin] = [api.Page]byte(m.Read(begin, api.Page))
	}
	return all
}

// Sum answers P14.1's sum. Of 64 bits, which go round, too, the lowest 32 are the same as those of the whole number.
func Sum(s api.State, o api.Operand) uint32 {
	return uint32(register(s, o.Base) + register(s, o.Index)*uint64(o.Scale) + uint64(o.Disp))
}

// register answers what a base or an index is.
func register(s api.State, r int) uint64 {
	for k, v := range s.R {
		if k == r {
			return uint64(v)
		}
	}
	return 0
}

// Aimed answers o with a Disp by which it is at off, be it that the sum goes round.
func Aimed(s api.State, o api.Operand, off uint32) api.Operand {
	o.Disp = 0
	o.Disp = off - Sum(s, o)
	return o
}

// there: are so many bytes from off on all in data, and data in memory?
func (m Machine) there(off uint32, size int) bool {
	return int64(off)+int64(size) <= int64(m.Seg.Size) && int64(m.Seg.Base)+int64(m.Seg.Size) <= 1<<32
}

// Load answers an operand's lowest bytes, 1, 2, 4 or 8; false of an error of memory.
func (m Machine) Load(o api.Operand, size int) (uint64, bool) {
	v := uint64(0)
	switch o.Kind {
	case api.Reg:
		v = uint64(m.State.R[o.Reg])
	case api.Low:
		v = uint64(m.State.R[o.Reg%4]) >> (o.Reg / 4 * 8) % 256
	case api.Dbl:
		v = m.State.X[o.Reg]
	case api.Imm:
		v = uint64(o.Disp)
	case api.Mem:
		return m.LoadAt(Sum(m.State, o), size)
	}
	if size < 8 {
		v %= 1 << (8 * size)
	}
	return v, true
}

// LoadAt answers so many bytes of data, the lowest first; false of an error of memory.
func (m Machine) LoadAt(off uint32, size int) (uint64, bool) {
	v := uint64(0)
	if !m.Seg.R || !m.there(off, size) {
		return 0, false
	}
	for i := size; i > 0; i-- {
		v = v*256 + uint64(m.Data[off+uint32(i)-1])
	}
	return v, true
}

// Store stores a number's lowest bytes, 1, 2, 4 or 8; false (nothing) of an error of memory.
func (m *Machine) Store(o api.Operand, size int, v uint64) bool {
	switch o.Kind {
	case api.Reg:
		m.State.R[o.Reg] = uint32(v % (1 << 32))
	case api.Low:
		r, bit := &m.State.R[o.Reg%4], uint32(1)<<(o.Reg/4*8)
		*r += (uint32(v%256) - *r/bit%256) * bit
	case api.Dbl:
		m.State.X[o.Reg] = v
	case api.Mem:
		return m.StoreAt(Sum(m.State, o), size, v)
	}
	return true
}

// StoreAt stores a number's lowest bytes, so many, in data; false (nothing) of an error of memory.
func (m *Machine) StoreAt(off uint32, size int, v uint64) bool {
	if !m.Seg.W || !m.there(off, size) {
		return false
	}
	for i := range uint32(size) {
		m.Data[off+i] = byte(v % 256)
		v /= 256
	}
	return true
}
