package machines

import (
	"testing"

	"saltern/api"
	"saltern/operands"
	"saltern/states"
)

func TestBus(t *testing.T) {
	m := New(states.Full(), Open(8192, 24))
	m.Data[3] = 0
	b := m.Bus()
	row := b.Memory().Read(8191, 26)
	for i, v := range row[1:25] {
		if v != m.Data[i] || (v == 0) != (i == 3) {
			t.Errorf("Bus: %d at %d", v, i)
		}
	}
	if _, data := b.Segs(); data != m.Seg || row[0] == 0 || row[25] == 0 {
		t.Errorf("Bus: %+v, %x", data, row)
	}
}

func TestAlike(t *testing.T) {
	m := New(states.Full(), Open(8192, 24))
	for _, change := range []func(m *Machine){func(m *Machine) { m.Data[0]++ }, func(m *Machine) { m.Data[23]++ }, func(m *Machine) { m.Seg.W = false }, func(m *Machine) { m.Seg.Size-- }} {
		other := m.Clone()
		if !Alike(m.Bus(), other.Bus()) {
			t.Error("Alike: a clone isn't")
		}
		change(&other)
		if Alike(m.Bus(), other.Bus()) {
			t.Errorf("Alike: %+v", other)
		}
	}
	for _, at := range []uint32{0, 8191, 8216, code, code + 100, 1<<32 - 1} {
		b := m.Bus()
		b.Memory().Set(at, b.Memory().Get(at)+1)
		if Alike(m.Bus(), b) {
			t.Errorf("Alike: a byte at %#x is another one", at)
		}
	}
}

func TestPlaces(t *testing.T) {
	s := api.State{R: [8]uint32{api.EAX: 0x10, api.EBX: 3, api.EDI: 0xffffffff}}
	for _, x := range []struct {
		o    api.Operand
		want uint32
	}{
		{operands.Mem(api.EAX, api.EBX, 4, 8), 0x24}, {operands.Mem(-1, -1, 1, 5), 5}, {operands.Mem(api.EDI, -1, 1, 1), 0}, {operands.Mem(-1, api.EDI, 8, 1), 0xfffffff9}, {operands.Mem(8, 9, 8, 1), 1},
	} {
		if got := Sum(s, x.o); got != x.want {
			t.Errorf("Sum(%+v): %#x, not %#x", x.o, got, x.want)
		}
		if got := Sum(s, Aimed(s, x.o, 77)); got != 77 {
			t.Errorf("Aimed(%+v): %#x", x.o, got)
		}
	}
}

func TestLoadAndStore(t *testing.T) {
	place := operands.Mem(-1, -1, 1, 16)
	for _, x := range []struct {
		o          api.Operand
		size       int
		was, given uint64
	}{
		{operands.Reg(api.ESP), 4, 0x84838281, 0xb5a69788}, {operands.Reg(api.ESP), 2, 0x8281, 0x9788}, {operands.Low(0), 1, 0x01, 0x88}, {operands.Low(7), 1, 0x3d, 0x88},
		{operands.Dbl(7), 8, 0xf8f7f6f5f4f3f2f1, 0xf1e2d3c4b5a69788}, {place, 1, 0x31, 0x88}, {place, 8, 0x3f3d3b3937353331, 0xf1e2d3c4b5a69788}, {operands.Imm(0x1ff), 1, 0xff, 0xff},
	} {
		m := New(states.Full(), Open(8192, 24))
		was, ok := m.Load(x.o, x.size)
		stored := m.Store(x.o, x.size, 0xf1e2d3c4b5a69788)
		now, k := m.Load(x.o, x.size)
		if was != x.was || now != x.given || !ok || !stored || !k {
			t.Errorf("Load, Store, Load(%+v, %d): %#x, %#x, %t, %t, %t", x.o, x.size, was, now, ok, stored, k)
		}
		again, _ := m.Load(x.o, x.size)
		m.Store(x.o, x.size, x.was)
		if x.o.Kind != api.Reg && (m.State != states.Full() || !Alike(m.Bus(), New(m.State, m.Seg).Bus())) || again != now {
			t.Errorf("Store(%+v, %d): %+v", x.o, x.size, m)
		}
	}
}

func TestErrors(t *testing.T) {
	for _, x := range []struct {
		seg         api.Seg
		off         uint32
		load, store bool
	}{
		{Open(0, 24), 20, true, true}, {Open(0, 24), 21, false, false}, {Open(0, 24), 0xffffffff, false, false}, {Open(0xffffffec, 20), 0, true, true}, {Open(0xffffffed, 20), 0, false, false},
		{api.Seg{Size: 24, R: true}, 0, true, false}, {api.Seg{Size: 24, W: true}, 0, false, true}, {api.Seg{Size: 24, X: true}, 0, false, false},
	} {
		m := New(api.State{}, x.seg)
		before := m.Clone()
		_, loaded := m.Load(operands.Mem(-1, -1, 1, x.off), 4)
		stored := m.Store(operands.Mem(-1, -1, 1, x.off), 4, 0)
		if loaded != x.load || stored != x.store || stored == Alike(m.Bus(), before.Bus()) {
			t.Errorf("%+v at %#x: %t, %t", x.seg, x.off, loaded, stored)
		}
	}
}
