package machines

import (
	"strconv"
	"strings"

	"saltern/api"
	"saltern/bus"
	"saltern/instrs"
	"saltern/marks"
	"saltern/states"
)

// Tester: what of a *testing.T is asked for here, as package testing is for files of tests alone.
type Tester interface {
	Helper()
	Errorf(format string, args ...any)
	Fatalf(format string, args ...any)
}

// toldSize: how many bytes data has of a machine that is told by words.
const toldSize = 16

// Told answers a machine by words: eax=1f a register, ip=20 the next place, x3=1 a double, m=0102 what data begins with, other words the flags that are set. All else is nought, but IP and doubles; data has 16 bytes.
func Told(t Tester, words string) Machine {
	t.Helper()
	m := Machine{Seg: Open(api.DataAt, toldSize), Data: make([]byte, toldSize)}
	m.State.IP, m.State.X = states.Full().IP, states.Full().X
	for word := range strings.FieldsSeq(words) {
		if strings.Trim(word, "CPZSOD") == "" {
			m.State.F = marks.Of(word)
			continue
		}
		if name, number, is := strings.Cut(word, "="); !is || !m.tell(name, number) {
			t.Fatalf("no words of a machine: %q", word)
		}
	}
	return m
}

// tell lets a machine have what a word tells; false if there is no such word.
func (m *Machine) tell(name, number string) bool {
	if name == "m" {
		return m.lay(number)
	}
	v, err := strconv.ParseUint(number, 16, 64)
	if r := strings.Index("x0 x1 x2 x3 x4 x5 x6 x7", name); r >= 0 && len(name) == 2 {
		m.State.X[r/3] = v
		return err == nil
	}
	if v >= 1<<32 {
		return false
	}
	if name == "ip" {
		m.State.IP = uint32(v)
		return err == nil
	}
	r := strings.Index("eax ecx edx ebx esp ebp esi edi", name)
	if r < 0 || len(name) != 3 {
		return false
	}
	m.State.R[r/4] = uint32(v)
	return err == nil
}

// lay lets data begin with such bytes, two hexadecimal digits each.
func (m *Machine) lay(bytes string) bool {
	if len(bytes)%2 != 0 || len(bytes)/2 > len(m.Data) {
		return false
	}
	for k := range len(bytes) / 2 {
		v, err := strconv.ParseUint(bytes[2*k:2*k+2], 16, 8)
		if err != nil {
			return false
		}
		m.Data[k] = byte(v)
	}
	return true
}

// Do: how a layer does an instruction.
type Do func(b *bus.Bus, s api.State, i api.Instr) (api.State, int)

// Done holds do against what it should be, all of memory behind it, too, and asks whether s and i are as they were.
func (do Do) Done(t Tester, promise string, m Machine, i api.Instr, want Machine, end int) {
	t.Helper()
	s, was := m.State, i
	b := m.Bus()
	got, e := do(b, s, i)
	if got != want.State || e != end {
		t.Errorf("%s: Do(%+v, %+v): %+v, %d, not %+v, %d", promise, m.State, i, got, e, want.State, end)
	}
	if !Alike(b, want.Bus()) {
		_, data := b.Segs()
		t.Errorf("%s: Do(%+v, %+v): data has % x, not % x, or other memory changed", promise, m.State, i, b.Memory().Read(data.Base, len(want.Data)), want.Data)
	}
	if s != m.State || i != was {
		t.Errorf("%s: Do(%+v, %+v): what was handed in changed", promise, m.State, i)
	}
}

// Row: the bytes of an instruction, a machine, and what it is behind it, or an end by its name, behind which it is what it was.
type Row [3]string

// Hold holds do of rows against what they say: of what works by one promise, of what fails by another one.
func (do Do) Hold(t Tester, works, fails string, rows []Row) {
	t.Helper()
	for _, x := range rows {
		i := instrs.One(x[0])
		if i.Op == 0 {
			t.Fatalf("no instruction: %q", x[0])
		}
		before, end := Told(t, x[1]), ended(x[2])
		if end != api.Going {
			do.Done(t, fails+": "+x[0], before, i, before, end)
			continue
		}
		do.Done(t, works+": "+x[0], before, i, Told(t, x[2]), end)
	}
}

// ended answers an end by its name; Going of what isn't one.
func ended(name string) int {
	switch name {
	case "BadCode":
		return api.BadCode
	case "BadPlace":
		return api.BadPlace
	case "BadDivide":
		return api.BadDivide
	case "Halted":
		return api.Halted
	case "Trapped":
		return api.Trapped
	}
	return api.Going
}

// Aim answers i with its place in memory, if it has one, at off; but not of Lea, which doesn't go there.
func Aim(s api.State, i api.Instr, off uint32) api.Instr {
	if i.A.Kind == api.Mem {
		i.A = Aimed(s, i.A, off)
	}
	if i.B.Kind == api.Mem && i.Op != api.Lea {
		i.B = Aimed(s, i.B, off)
	}
	return i
}

// Offs answers places in data of such a size: within, at the last bytes, across the end by one byte up to all, and before the beginning.
func Offs(size uint32) []uint32 {
	return []uint32{0, 5, size - 8, size - 7, size - 4, size - 3, size - 2, size - 1, size, 1 << 31, 1<<32 - 8, 1<<32 - 4, 1<<32 - 1}
}

// Shut answers segments of such a size: that may be read and written, one of them, neither, and likewise ones that aren't Right.
func Shut(size uint32) []api.Seg {
	var all []api.Seg
	for _, base := range []uint32{api.DataAt, 1 - size} {
		for rights := range 4 {
			all = append(all, api.Seg{Base: base, Size: size, R: rights&1 == 0, W: rights&2 == 0})
		}
	}
	return all
}
