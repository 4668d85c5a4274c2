package stack_test

import (
	"testing"

	"saltern/api"
	"saltern/bus"
	"saltern/instrs"
	"saltern/machines"
	"saltern/marks"
	"saltern/operands"
	"saltern/stack"
	"saltern/states"
)

// pushing: Push of a number as something that is done.
func pushing(v uint32) machines.Do {
	return func(b *bus.Bus, s api.State, _ api.Instr) (api.State, int) { return stack.Push(b, s, v) }
}

// popping: Pop as something that is done, which has to tell a number.
func popping(t *testing.T, want uint32) machines.Do {
	return func(b *bus.Bus, s api.State, _ api.Instr) (api.State, int) {
		v, behind, end := stack.Pop(b, s)
		if v != want {
			t.Errorf("P16.1: Pop(%+v): %#x, not %#x", s, v, want)
		}
		return behind, end
	}
}

func TestPush(t *testing.T) {
	for _, x := range []struct {
		v              uint32
		before, behind string
	}{
		{0x04030201, "esp=10 CZO", "esp=c m=00000000000000000000000001020304 CZO"}, {0xffffff80, "esp=4 m=1122334455667788", "esp=0 m=80ffffff55667788"}, {0, "esp=9 m=11111111111111111111", "esp=5 m=11111111110000000011"}, {1, "esp=6 eax=5 ebp=6 PSD", "esp=2 eax=5 ebp=6 m=000001 PSD"},
		// The first and the last four bytes, and one beyond each.
		{0xffffffff, "esp=4", "esp=0 m=ffffffff"}, {0xffffffff, "esp=3", ""}, {0xffffffff, "esp=10", "esp=c m=000000000000000000000000ffffffff"}, {0xffffffff, "esp=11", ""},
		// Round 2^32, where nothing is.
		{7, "esp=0", ""}, {7, "esp=1 Z", ""}, {7, "esp=ffffffff", ""}, {7, "esp=80000004", ""},
	} {
		m := machines.Told(t, x.before)
		if x.behind == "" {
			pushing(x.v).Done(t, "P16.1: Push", m, api.Instr{}, m, api.BadPlace)
			continue
		}
		pushing(x.v).Done(t, "P16.1: Push", m, api.Instr{}, machines.Told(t, x.behind), api.Going)
	}
}

func TestPop(t *testing.T) {
	for _, x := range []struct {
		v              uint32
		before, behind string
	}{
		{0x04030201, "esp=1 m=ff0102030405 CZO", "esp=5 m=ff0102030405 CZO"}, {0xffffff80, "esp=0 m=80ffffff", "esp=4 m=80ffffff"}, {0x80, "esp=0 m=8000000001 PSD eax=9 ebp=7", "esp=4 m=8000000001 PSD eax=9 ebp=7"}, {0, "esp=5 m=1111111111000000001111", "esp=9 m=1111111111000000001111"},
		{0x11223344, "esp=c m=00000000000000000000000044332211", "esp=10 m=00000000000000000000000044332211"}, {0, "esp=d m=ff", ""}, {0, "esp=10 m=ff", ""}, {0, "esp=ffffffff m=ffffffffffff", ""}, {0, "esp=fffffffc m=ffffffffffff", ""}, {0, "esp=80000000 m=ff PC", ""},
	} {
		m := machines.Told(t, x.before)
		if x.behind == "" {
			popping(t, 0).Done(t, "P16.1: Pop", m, api.Instr{}, m, api.BadPlace)
			continue
		}
		popping(t, x.v).Done(t, "P16.1: Pop", m, api.Instr{}, machines.Told(t, x.behind), api.Going)
	}
}

// Of a data segment of 2^32 - 1 bytes, the greatest one: its last four bytes are as good as others, and where ESP goes round 2^32 there is never room.
func TestRound(t *testing.T) {
	seg := machines.Open(0, 1<<32-1)
	m := machines.Machine{State: states.Full(), Seg: seg}
	m.State.R[api.ESP] = 1<<32 - 1
	b := m.Bus()
	s, end := stack.Push(b, m.State, 0x44332211)
	want := m.State
	want.R[api.ESP] = 1<<32 - 5
	if row := string(b.Memory().Read(1<<32-5, 4)); s != want || end != api.Going || row != "\x11\x22\x33\x44" {
		t.Errorf("P16.1: Push at the end: %+v, %d, % x", s, end, row)
	}
	v, s, end := stack.Pop(b, s)
	if v != 0x44332211 || s != m.State || end != api.Going {
		t.Errorf("P16.1: Pop at the end: %#x, %+v, %d", v, s, end)
	}
	// Four bytes from 2^32 - 4 on would go one beyond that segment's end; those from 2^32 - 3 on would go round.
	for _, esp := range []uint32{0, 1, 3} {
		s := want
		s.R[api.ESP] = esp
		if got, end := stack.Push(b, s, 1); got != s || end != api.BadPlace {
			t.Errorf("P16.1: Push of ESP %d: %+v, %d", esp, got, end)
		}
		s.R[api.ESP] = esp - 4
		if v, got, end := stack.Pop(b, s); v != 0 || got != s || end != api.BadPlace {
			t.Errorf("P16.1: Pop of ESP %#x: %#x, %+v, %d", s.R[api.ESP], v, got, end)
		}
	}
}

// Pop of that segment's last four bytes: ESP is its size behind it.
func TestRoundBehindPop(t *testing.T) {
	m := machines.Machine{State: states.Full(), Seg: machines.Open(0, 1<<32-1)}
	b := m.Bus()
	b.Memory().Write(1<<32-5, []byte{1, 2, 3, 4})
	s := m.State
	s.R[api.ESP] = 1<<32 - 5
	want := s
	want.R[api.ESP], want.R[api.EDI] = 1<<32-1, 0x04030201
	if got, end := stack.Do(b, s, instrs.One("5f")); got != want || end != api.Going {
		t.Errorf("P16.2: Pop at the end: %+v, %d", got, end)
	}
}

// The chapter's example, of any number.
func TestAsItWas(t *testing.T) {
	for _, s := range states.All() {
		for _, v := range operands.Disps() {
			for _, esp := range []uint32{4, 5, 11, 24} {
				s.R[api.ESP] = esp
				b := machines.New(s, machines.Open(api.DataAt, 24)).Bus()
				down, end := stack.Push(b, s, v)
				got, up, e := stack.Pop(b, down)
				if got != v || up != s || end != api.Going || e != api.Going || down.R[api.ESP] != esp-4 {
					t.Errorf("P16.1: Push(%#x), Pop of ESP %d: %#x, %+v, %d, %d", v, esp, got, up, end, e)
				}
			}
		}
	}
}

func TestLastComesFirst(t *testing.T) {
	row := operands.Disps()
	size := uint32(4 * len(row))
	s := states.Full()
	s.R[api.ESP] = size
	b := machines.New(s, machines.Open(api.DataAt, size)).Bus()
	all := []api.State{s}
	for _, v := range row {
		down, end := stack.Push(b, s, v)
		if end != api.Going {
			t.Fatalf("P16.3: Push: %d", end)
		}
		s = down
		all = append(all, s)
	}
	if full, end := stack.Push(b, s, 1); full != s || end != api.BadPlace {
		t.Errorf("P16.3: Push, when it is full: %+v, %d", full, end)
	}
	for k := len(row) - 1; k >= 0; k-- {
		v, up, end := stack.Pop(b, s)
		if v != row[k] || up != all[k] || end != api.Going {
			t.Errorf("P16.3: Pop: %#x, %+v, %d, not %#x", v, up, end, row[k])
		}
		s = up
	}
	if v, up, end := stack.Pop(b, s); v != 0 || up != s || end != api.BadPlace {
		t.Errorf("P16.3: Pop, when it is empty: %#x, %+v, %d", v, up, end)
	}
}

func TestIs(t *testing.T) {
	var asked []int
	for op := -100; op < 200; op++ {
		asked = append(asked, op)
		asked = append(asked, operands.Like(op)...)
	}
	for _, op := range asked {
		if got := stack.Is(op); got != (op == api.Push || op == api.Pop || op == api.Leave) {
			t.Errorf("P16.2: Is(%d): %t", op, got)
		}
	}
}

func TestDo(t *testing.T) {
	machines.Do(stack.Do).Hold(t, "P16.2", "P16.2", []machines.Row{
		{"50", "esp=8 eax=11223344 CZ", "esp=4 eax=11223344 m=0000000044332211 CZ"}, {"57", "esp=10 edi=ff D", "esp=c edi=ff m=000000000000000000000000ff D"}, {"ff f1", "esp=4 ecx=80000000", "esp=0 ecx=80000000 m=00000080"}, {"55", "esp=3 ebp=1", "BadPlace"},
		{"6a 7f", "esp=4 m=ffffffffff", "esp=0 m=7f000000ff"}, {"6a 80", "esp=6", "esp=2 m=000080ffffff"}, {"68 04 03 02 81", "esp=7 PSO", "esp=3 m=00000004030281 PSO"}, {"6a ff", "esp=11", "BadPlace"}, {"68 80 00 00 00", "esp=0 C", "BadPlace"},
		{"ff 73 04", "esp=4 ebx=1 m=ffffffffff01020304", "esp=0 ebx=1 m=01020304ff01020304"}, {"ff 33", "esp=5 ebx=0 m=11223344556677", "esp=1 m=11112233446677"}, {"ff 35 0c 00 00 00", "esp=4 m=00000000000000000000000001020384", "esp=0 m=01020384000000000000000001020384"},
		{"ff 35 0d 00 00 00", "esp=4 m=ff", "BadPlace"}, {"ff 33", "esp=4 ebx=ffffffff", "BadPlace"}, {"ff 33", "esp=2 ebx=0 m=ff", "BadPlace"},
		// ESP is what it was ahead, be it what is pushed or what says where.
		{"54", "esp=8", "esp=4 m=0000000008"}, {"ff f4", "esp=10 C", "esp=c m=00000000000000000000000010 C"}, {"ff 34 24", "esp=4 m=0000000001020304", "esp=0 m=0102030401020304"}, {"ff 74 24 fc", "esp=4 m=0a0b0c0d", "esp=0 m=0a0b0c0d"}, {"ff 74 24 04", "esp=8 m=000000000000000000000000a1a2a3a4", "esp=4 m=00000000a1a2a3a400000000a1a2a3a4"}, {"ff 74 24 04", "esp=9", "BadPlace"},
		{"58", "esp=1 m=ff11223344 CZ", "esp=5 m=ff11223344 eax=44332211 CZ"}, {"5f", "esp=c edi=5 m=000000000000000000000000ff0000ff S", "esp=10 edi=ff0000ff m=000000000000000000000000ff0000ff S"}, {"8f c3", "esp=0 ebx=1", "esp=4"}, {"5d", "esp=0 ebp=9 m=01", "esp=4 ebp=1 m=01"}, {"58", "esp=d eax=7", "BadPlace"}, {"59", "esp=ffffffff", "BadPlace"},
		{"8f 03", "esp=4 ebx=1 m=0000000001020304", "esp=8 ebx=1 m=0001020304020304"}, {"8f 05 0c 00 00 00", "esp=0 m=a1a2a3a4", "esp=4 m=a1a2a3a40000000000000000a1a2a3a4"}, {"8f 43 fc", "esp=8 ebx=4 m=00000000000000001122334455", "esp=c ebx=4 m=11223344000000001122334455"},
		// The place errs behind a popping that didn't.
		{"8f 05 0d 00 00 00", "esp=0 m=a1a2a3a4", "BadPlace"}, {"8f 03", "esp=4 ebx=ffffffff m=01 PZ", "BadPlace"}, {"8f 03", "esp=d ebx=0", "BadPlace"},
		// ESP itself is what was popped; an address with it is as it is behind the popping.
		{"5c", "esp=4 m=0000000078563412", "esp=12345678 m=0000000078563412"}, {"8f c4", "esp=0 m=00 D", "m=00 D"}, {"8f 04 24", "esp=4 m=00000000a1a2a3a4", "esp=8 m=00000000a1a2a3a4a1a2a3a4"}, {"8f 44 24 04", "esp=0 m=a1a2a3a4", "esp=4 m=a1a2a3a400000000a1a2a3a4"}, {"8f 44 24 fc", "esp=0 m=a1a2a3a4", "esp=4 m=a1a2a3a4"}, {"8f 44 24 f8", "esp=4 m=01020304a1a2a3a4", "esp=8 m=a1a2a3a4a1a2a3a4"},
		{"8f 44 8c 01", "esp=0 ecx=1 m=a1a2a3a4", "esp=4 ecx=1 m=a1a2a3a40000000000a1a2a3a4"}, {"8f 04 24", "esp=c", "BadPlace"}, {"8f 44 24 fb", "esp=0 m=01020304", "BadPlace"},
		{"c9", "ebp=4 esp=ffff m=0000000001020304 CPS", "ebp=4030201 esp=8 m=0000000001020304 CPS"}, {"c9", "ebp=c esp=0 m=a1a2a3a4000000000000000000000080", "ebp=80000000 esp=10 m=a1a2a3a4000000000000000000000080"}, {"c9", "ebp=0", "esp=4"}, {"c9", "ebp=d esp=4", "BadPlace"}, {"c9", "ebp=ffffffff esp=0 O", "BadPlace"}, {"c9", "ebp=10", "BadPlace"},
	})
}

// expected answers what is behind i, and the end.
func expected(m machines.Machine, i api.Instr) (machines.Machine, int) {
	x := m.Clone()
	r := &x.State.R
	at := r[api.ESP]
	var done bool
	switch i.Op {
	case api.Push:
		v, loaded := x.Load(i.A, 4)
		done = loaded && x.StoreAt(at-4, 4, v)
		r[api.ESP] = at - 4
	case api.Pop:
		v, loaded := x.LoadAt(at, 4)
		r[api.ESP] = at + 4
		done = loaded && x.Store(i.A, 4, v)
	case api.Leave:
		v, loaded := x.LoadAt(r[api.EBP], 4)
		r[api.ESP], r[api.EBP], done = r[api.EBP]+4, uint32(v), loaded
	}
	if !done {
		return m, api.BadPlace
	}
	return x, api.Going
}

// size: how many bytes data has in what follows.
const size = 24

// aimed answers i with its place in memory, if it has one, at off: of Pop by ESP as it is behind the popping.
func aimed(s api.State, i api.Instr, off uint32) api.Instr {
	if i.Op == api.Pop {
		s.R[api.ESP] += 4
	}
	return machines.Aim(s, i, off)
}

// Each instruction of the chapter, of each state.
func TestEachInstruction(t *testing.T) {
	for k, i := range instrs.Of(stack.Is) {
		for n, s := range states.All() {
			s.R[api.ESP] = machines.Offs(size)[(k+n)%5] + 4
			s.R[api.EBP] = uint32(k % 21)
			m := machines.New(s, machines.Open(api.DataAt, size))
			j := aimed(s, i, uint32(k*7%21))
			want, end := expected(m, j)
			machines.Do(stack.Do).Done(t, "P16.2", m, j, want, end)
		}
	}
}

// shapes: instructions of each operation and of each kind of operand, with ESP and without.
func shapes() []api.Instr {
	var all []api.Instr
	for _, bytes := range []string{"50", "54", "6a 81", "68 11 22 33 44", "ff 33", "ff 34 24", "ff 74 98 05", "58", "5c", "8f 03", "8f 04 24", "8f 84 4c 11 22 33 44", "c9"} {
		all = append(all, instrs.One(bytes))
	}
	return all
}

// ESP and the place at each of the ends, in data that may be read and written, one of them, neither, or that isn't Right.
func TestFails(t *testing.T) {
	for k, i := range shapes() {
		for _, data := range machines.Shut(size) {
			for n, esp := range machines.Offs(size) {
				for _, off := range machines.Offs(size)[n%2:] {
					s := states.All()[(k+n)%4]
					s.R[api.ESP], s.R[api.EBP] = esp, off
					if i.Op == api.Push {
						s.R[api.ESP] += 4
					}
					m := machines.New(s, data)
					j := aimed(s, i, off)
					want, end := expected(m, j)
					machines.Do(stack.Do).Done(t, "P16.2", m, j, want, end)
				}
			}
		}
	}
}

// Push and Pop in each of these segments, at each of these places.
func TestFailsAlone(t *testing.T) {
	for _, data := range machines.Shut(size) {
		for n, esp := range machines.Offs(size) {
			for _, by := range []uint32{0, 4} {
				s := states.All()[n%4]
				s.R[api.ESP] = esp + by
				m := machines.New(s, data)
				want, end := expected(m, api.Instr{Op: api.Push, A: operands.Imm(0x91a2b3c4)})
				pushing(0x91a2b3c4).Done(t, "P16.1: Push", m, api.Instr{}, want, end)
				v, _ := m.LoadAt(s.R[api.ESP], 4)
				want, end = expected(m, api.Instr{Op: api.Pop, A: operands.None()})
				popping(t, uint32(v)).Done(t, "P16.1: Pop", m, api.Instr{}, want, end)
			}
		}
	}
}

// IP, flags, doubles and Len are no matter, whatever they are, and change nowhere.
func TestNothingElse(t *testing.T) {
	for k, f := range marks.All() {
		for _, i := range shapes() {
			s := states.All()[k%4]
			s.F, s.R[api.ESP], s.R[api.EBP], i.Len = f, 12, 8, k-9
			s.IP, s.X[k%8] = uint32(k)<<26, uint64(k)<<58
			m := machines.New(s, machines.Open(api.DataAt, size))
			j := aimed(s, i, 5)
			want, end := expected(m, j)
			machines.Do(stack.Do).Done(t, "P16.2", m, j, want, end)
			if end != api.Going || want.State.IP != s.IP || want.State.F != f || want.State.X != s.X {
				t.Errorf("P16.2: the model's %+v, %d", want.State, end)
			}
		}
	}
}

// An Op that Is doesn't tell doesn't end the program, nor do operands that decode.One never tells.
func TestOthersEnd(t *testing.T) {
	m := machines.New(states.Full(), machines.Open(api.DataAt, size))
	all := append(operands.Like(api.Push), operands.Like(api.Leave)...)
	for op := -3; op < api.Ops+3; op++ {
		all = append(all, op)
	}
	for _, op := range all {
		for _, o := range []api.Operand{{}, operands.None(), operands.Reg(8), operands.Low(-1), operands.Dbl(9), {Kind: api.Mem, Base: 77, Index: -9}, {Kind: 99}} {
			for _, size := range []int{0, 1, 8, -1} {
				b := m.Bus()
				stack.Do(b, m.State, api.Instr{Op: op, Size: size, A: o, B: o})
				if !machines.Alike(b, m.Bus()) {
					t.Errorf("P16.2: operation %d of %+v: memory changed, though ESP is outside", op, o)
				}
			}
		}
	}
}
