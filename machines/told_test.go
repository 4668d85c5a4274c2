package machines

import (
	"strings"
	"testing"

	"saltern/api"
	"saltern/bus"
	"saltern/instrs"
	"saltern/marks"
	"saltern/operands"
	"saltern/states"
)

// heard counts what a Tester is told.
type heard struct{ errors, fatal int }

func (h *heard) Helper()               {}
func (h *heard) Errorf(string, ...any) { h.errors++ }
func (h *heard) Fatalf(string, ...any) { h.fatal++ }

func TestTold(t *testing.T) {
	want := Machine{Seg: Open(api.DataAt, 16), Data: []byte{1, 0xff, 15: 0}}
	want.State.IP, want.State.X = states.Full().IP, states.Full().X
	for _, words := range []string{"m=01ff", " m=01fF ", "m=01ff0000000000000000000000000000"} {
		if got := Told(t, words); got.State != want.State || !Alike(got.Bus(), want.Bus()) {
			t.Errorf("Told(%q): %+v", words, got)
		}
	}
	want.State = api.State{R: [8]uint32{api.EAX: 1, api.ESP: 0xffffffff, api.EDI: 0x80}, IP: 0x20, F: marks.Of("CSD"), X: states.Full().X}
	want.State.X[0], want.State.X[7] = 0xfff0000000000000, 2
	got := Told(t, "eax=1 esp=ffffffff edi=80 ip=20 CSD x0=fff0000000000000 x7=2 m=01ff")
	if got.State != want.State || !Alike(got.Bus(), want.Bus()) {
		t.Errorf("Told: %+v", got)
	}
	for _, words := range []string{"eax", "eax=", "eax=x", "eax=100000000", "ax=1", "e=1", "x8=1", "x=1", "x0=", "ip=", "ip=100000000", "=1", "m=1", "m=0x", "m=" + strings.Repeat("00", 17), "CX", "BadPlace"} {
		h := &heard{}
		if Told(h, words); h.fatal != 1 {
			t.Errorf("Told(%q): taken", words)
		}
	}
}

func TestDone(t *testing.T) {
	m := New(states.Full(), Open(api.DataAt, 16))
	want := m.Clone()
	want.State.IP++
	want.Data[3] = 9
	right := func(b *bus.Bus, s api.State, _ api.Instr) (api.State, int) {
		b.Store(3, 1, 9)
		s.IP++
		return s, api.Halted
	}
	for k, do := range []Do{
		right,
		func(b *bus.Bus, s api.State, i api.Instr) (api.State, int) {
			s, _ = right(b, s, i)
			return s, api.Going
		},
		func(b *bus.Bus, s api.State, i api.Instr) (api.State, int) {
			s, e := right(b, s, i)
			s.X[7]++
			return s, e
		},
		func(b *bus.Bus, s api.State, i api.Instr) (api.State, int) {
			b.Store(4, 1, 9)
			return right(b, s, i)
		},
		func(b *bus.Bus, s api.State, i api.Instr) (api.State, int) {
			b.Memory().Set(0, 1)
			return right(b, s, i)
		},
		func(b *bus.Bus, s api.State, i api.Instr) (api.State, int) { b.Grow(17); return right(b, s, i) },
	} {
		h := &heard{}
		do.Done(h, "", m, api.Instr{}, want, api.Halted)
		if (h.errors == 0) != (k == 0) {
			t.Errorf("Done %d: %+v", k, h)
		}
	}
}

func TestHold(t *testing.T) {
	do := Do(func(_ *bus.Bus, s api.State, _ api.Instr) (api.State, int) {
		if s.R[api.EAX] == 9 {
			return s, api.BadDivide
		}
		s.R[api.EAX]++
		return s, api.Going
	})
	h := &heard{}
	do.Hold(h, "", "", []Row{{"90", "eax=1", "eax=2"}, {"90", "eax=9 C", "BadDivide"}})
	if h.errors+h.fatal != 0 {
		t.Errorf("Hold: %+v", h)
	}
	for _, row := range []Row{{"90", "eax=1", "eax=1"}, {"90", "eax=9", "BadPlace"}, {"90", "eax=9", "eax=9"}, {"90", "eax=1", "BadDivide"}, {"90 90", "eax=1", "eax=2"}, {"90", "eax=1", "Bad"}} {
		h := &heard{}
		if do.Hold(h, "", "", []Row{row}); h.errors+h.fatal == 0 {
			t.Errorf("Hold(%q): nothing", row)
		}
	}
	for name, end := range map[string]int{"BadCode": api.BadCode, "BadPlace": api.BadPlace, "BadDivide": api.BadDivide, "Halted": api.Halted, "Trapped": api.Trapped, "eax=1": api.Going, "": api.Going} {
		if ended(name) != end {
			t.Errorf("ended(%q): %d", name, ended(name))
		}
	}
}

func TestAim(t *testing.T) {
	s := states.Full()
	for _, bytes := range []string{"01 43 04", "03 44 98 05", "8f 44 24 04"} {
		i := instrs.One(bytes)
		j := Aim(s, i, 77)
		at := j.A
		if at.Kind != api.Mem {
			at = j.B
		}
		if Sum(s, at) != 77 {
			t.Errorf("Aim(%+v): %+v", i, j)
		}
	}
	for _, bytes := range []string{"8d 43 04", "90", "68 01 02 03 04"} {
		if i := instrs.One(bytes); Aim(s, i, 77) != i {
			t.Errorf("Aim(%+v): %+v", i, Aim(s, i, 77))
		}
	}
}

func TestShut(t *testing.T) {
	seen := map[api.Seg]int{}
	for _, g := range Shut(24) {
		seen[g]++
		m := New(states.Full(), g)
		for _, off := range Offs(24) {
			_, loaded := m.Load(operands.Mem(-1, -1, 1, off), 4)
			if is := g.R && g.Base == api.DataAt && off <= 20; loaded != is {
				t.Errorf("%+v at %#x: %t", g, off, loaded)
			}
		}
	}
	if len(seen) != 8 || seen[Open(api.DataAt, 24)] != 1 {
		t.Errorf("Shut: %+v", seen)
	}
}
