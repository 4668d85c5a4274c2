package alu_test

import (
	"bytes"
	"encoding/hex"
	"strconv"
	"strings"
	"testing"

	"saltern/alu"
	"saltern/api"
	"saltern/instrs"
	"saltern/machines"
	"saltern/marks"
	"saltern/operands"
	"saltern/states"
)

// told answers a machine by words: eax=1f a register, m=0102 what data begins with, other words the flags that are set. All else is nought, but IP and doubles; data has 16 bytes.
func told(t *testing.T, words string) machines.Machine {
	t.Helper()
	m := machines.Machine{Seg: machines.Open(api.DataAt, 16), Data: make([]byte, 16)}
	m.State.IP, m.State.X = states.Full().IP, states.Full().X
	for _, word := range strings.Fields(words) {
		name, number, is := strings.Cut(word, "=")
		if !is {
			m.State.F = marks.Of(word)
			continue
		}
		if name == "m" {
			row, err := hex.DecodeString(number)
			if copy(m.Data, row); err != nil || len(row) > 16 {
				t.Fatalf("no bytes: %q", word)
			}
			continue
		}
		v, err := strconv.ParseUint(number, 16, 32)
		r := strings.Index("eax ecx edx ebx esp ebp esi edi", name)
		if err != nil || r < 0 {
			t.Fatalf("no register: %q", word)
		}
		m.State.R[r/4] = uint32(v)
	}
	return m
}

// done holds Do against what it should be, all of memory behind it, too, and asks whether s and i are as they were.
func done(t *testing.T, promise string, m machines.Machine, i api.Instr, want machines.Machine, end int) {
	t.Helper()
	s, was := m.State, i
	b := m.Bus()
	got, e := alu.Do(b, s, i)
	if got != want.State || e != end {
		t.Errorf("%s: Do(%+v, %+v): %+v, %d, not %+v, %d", promise, m.State, i, got, e, want.State, end)
	}
	if !machines.Alike(b, want.Bus()) {
		_, data := b.Segs()
		t.Errorf("%s: Do(%+v, %+v): data has % x, not % x, or other memory changed", promise, m.State, i, b.Memory().Read(data.Base, len(want.Data)), want.Data)
	}
	if s != m.State || i != was {
		t.Errorf("%s: Do(%+v, %+v): what was handed in changed", promise, m.State, i)
	}
}

// row: the bytes of an instruction, a machine, and what it is behind it; of an end beside Going it is what it was.
type row struct {
	bytes, before, behind string
	end                   int
}

// hold holds Do of rows against what they say.
func hold(t *testing.T, rows []row) {
	t.Helper()
	for _, x := range rows {
		i := instrs.One(x.bytes)
		if !alu.Is(i.Op) {
			t.Fatalf("%s: no instruction of this chapter", x.bytes)
		}
		if x.end != api.Going {
			done(t, "P15.3: "+x.bytes, told(t, x.before), i, told(t, x.before), x.end)
			continue
		}
		done(t, "P15.2: "+x.bytes, told(t, x.before), i, told(t, x.behind), api.Going)
	}
}

func TestIs(t *testing.T) {
	known := map[int]int{}
	for _, op := range []int{
		api.Add, api.Or, api.Adc, api.Sbb, api.And, api.Sub, api.Xor, api.Cmp, api.Test, api.Not, api.Neg, api.Mul, api.Imul, api.Div, api.Idiv, api.Inc, api.Dec, api.Mov, api.Movzx, api.Movsx, api.Lea, api.Xchg,
		api.Times, api.Rol, api.Ror, api.Shl, api.Shr, api.Sar, api.Setcc, api.Cmov, api.Cwde, api.Cdq, api.Clc, api.Stc, api.Cmc, api.Cld, api.Std, api.Nop,
	} {
		known[op]++
	}
	var asked []int
	for op := -100; op < 200; op++ {
		asked = append(asked, op)
		asked = append(asked, operands.Like(op)...)
	}
	for _, op := range asked {
		if got := alu.Is(op); got != (known[op] == 1) {
			t.Errorf("P15.1: Is(%d): %t", op, got)
		}
	}
}

func TestSums(t *testing.T) {
	hold(t, []row{
		{"01 d8", "eax=1 ebx=2", "eax=3 ebx=2 P", 0}, {"01 d8", "eax=ffffffff ebx=1 D", "ebx=1 CPZD", 0}, {"03 c3", "eax=7fffffff ebx=1 CZ", "eax=80000000 ebx=1 PSO", 0},
		{"01 c0", "eax=80000001", "eax=2 CO", 0}, {"00 d8", "eax=1234ff ebx=5601", "eax=123400 ebx=5601 CPZ", 0}, {"00 fc", "eax=12ff ebx=3401", "eax=46ff ebx=3401", 0},
		{"04 80", "eax=ff80", "eax=ff00 CPZO", 0}, {"05 00 00 00 80", "eax=80000000", "CPZO", 0}, {"83 c0 80", "eax=80", "CPZ", 0}, {"80 c4 ff", "eax=100", "CPZ", 0},
		{"01 43 04", "eax=1020304 m=00000000fffefdfc01", "eax=1020304 m=00000000030200fe01 PS", 0},
		{"00 43 04", "eax=81 ebx=1 m=000000000080ff", "eax=81 ebx=1 m=000000000001ff CO", 0}, {"03 43 0c", "eax=2 m=000000000000000000000000ffffffff", "eax=1 m=000000000000000000000000ffffffff C", 0}, {"02 43 0f", "eax=2f0 m=0000000000000000000000000000000f", "eax=2ff m=0000000000000000000000000000000f PS", 0},
		{"11 d8", "eax=1 ebx=2", "eax=3 ebx=2 P", 0}, {"11 d8", "eax=1 ebx=2 C", "eax=4 ebx=2", 0}, {"11 d8", "eax=ffffffff C", "CPZ", 0}, {"10 d8", "eax=7f C", "eax=80 SO", 0}, {"83 d0 ff", "eax=0 C", "CPZ", 0}, {"83 d0 ff", "eax=0", "eax=ffffffff PS", 0},
		{"19 d8", "eax=3 ebx=2", "eax=1 ebx=2", 0}, {"19 d8", "eax=3 ebx=2 C", "ebx=2 PZ", 0}, {"19 d8", "eax=2 ebx=2 C", "eax=ffffffff ebx=2 CPS", 0}, {"18 d8", "eax=80 ebx=7f C", "eax=0 ebx=7f PZO", 0}, {"1c ff", "eax=5 CD", "eax=5 CPD", 0},
		{"29 d8", "eax=3 ebx=2 C", "eax=1 ebx=2", 0}, {"29 d8", "eax=1 ebx=2", "eax=ffffffff ebx=2 CPS", 0}, {"2d 01 00 00 00", "eax=80000000", "eax=7fffffff PO", 0}, {"29 c0", "eax=77 COS", "PZ", 0}, {"28 43 01", "eax=1 m=ff00ff", "eax=1 m=ffffff CPS", 0},
		{"39 d8", "eax=3 ebx=2 C", "eax=3 ebx=2", 0}, {"39 d8", "eax=1 ebx=2 D", "eax=1 ebx=2 CPSD", 0}, {"38 43 01", "eax=1 m=ff00ff", "eax=1 m=ff00ff CPS", 0}, {"3d 01 00 00 00", "eax=80000000", "eax=80000000 PO", 0}, {"3c 05", "eax=705", "eax=705 PZ", 0},
		{"f7 d8", "eax=1", "eax=ffffffff CPS", 0}, {"f7 d8", "eax=0 CSO", "PZ", 0}, {"f7 d8", "eax=80000000 D", "eax=80000000 CPSOD", 0}, {"f6 dc", "eax=80ff C", "eax=80ff CSO", 0}, {"f6 5b 02", "m=0000050000", "m=0000fb0000 CS", 0},
	})
}

func TestLogic(t *testing.T) {
	hold(t, []row{
		{"21 d8", "eax=ff00ff0f ebx=80808080 COZD", "eax=80008000 ebx=80808080 PSD", 0}, {"83 e0 e0", "eax=1003f", "eax=10020 ", 0}, {"20 e0", "eax=f00f C", "eax=f000 PZ", 0}, {"25 00 00 00 80", "eax=7fffffff", "PZ", 0}, {"21 43 02", "eax=ff m=ffffffffffffff", "eax=ff m=ffffff000000ff P", 0},
		{"09 d8", "eax=f0 ebx=700 COZD", "eax=7f0 ebx=700 PD", 0}, {"0a 03", "eax=1100 m=81", "eax=1181 m=81 PS", 0}, {"80 0b 0c", "m=3011", "m=3c11 P", 0}, {"83 c8 ff", "CZ", "eax=ffffffff PS", 0},
		{"31 c0", "eax=7 CPSO", "PZ", 0}, {"30 c4", "eax=ff01 O", "eax=fe01 S", 0}, {"35 ff ff ff ff", "eax=80000000 C", "eax=7fffffff P", 0},
		{"85 d8", "eax=f0 ebx=10f CO", "eax=f0 ebx=10f PZ", 0}, {"85 c0", "eax=80000001", "eax=80000001 S", 0}, {"a8 80", "eax=ff CD", "eax=ff SD", 0}, {"f6 03 0f", "m=f3f3", "m=f3f3 P", 0}, {"f7 43 0c 00 00 00 80", "m=000000000000000000000000000000ff", "m=000000000000000000000000000000ff PS", 0},
		{"f7 d0", "eax=ff CZ", "eax=ffffff00 CZ", 0}, {"f6 d4", "eax=1200 D", "eax=ed00 D", 0}, {"f6 53 01", "m=000f00 PSO", "m=00f000 PSO", 0}, {"f7 13", "m=000f0080aa", "m=fff0ff7faa", 0},
	})
}

func TestSteps(t *testing.T) {
	hold(t, []row{
		// The chapter's example: C stays.
		{"40", "eax=ffffffff C", "CPZ", 0}, {"40", "eax=ffffffff", "PZ", 0}, {"40", "eax=7fffffff C", "eax=80000000 CPSO", 0}, {"47", "edi=1 COD", "edi=2 CD", 0}, {"fe c4", "eax=ffff", "eax=ff PZ", 0}, {"fe 43 03", "m=0000007f00 C", "m=0000008000 CSO", 0}, {"ff 03", "m=ffff00ff", "m=000001ff PS", 0},
		{"48", "eax=0", "eax=ffffffff PS", 0}, {"48", "eax=1 CS", "CPZ", 0}, {"4c", "esp=80000000", "esp=7fffffff PO", 0}, {"fe c8", "eax=100 C", "eax=1ff CPS", 0}, {"ff 4b 04", "m=aabbccdd00000100", "m=aabbccddffff0000 P", 0},
	})
}

func TestProducts(t *testing.T) {
	hold(t, []row{
		{"f7 e3", "eax=80000000 ebx=2 ZD", "edx=1 ebx=2 CZOD", 0}, {"f7 e3", "eax=ffff ebx=10001 edx=7 COPS", "eax=ffffffff ebx=10001 PS", 0}, {"f7 e2", "eax=ffffffff edx=ffffffff", "eax=1 edx=fffffffe CO", 0}, {"f7 e0", "eax=10000", "edx=1 CO", 0}, {"f7 63 01", "eax=10 m=0000000010", "edx=1 m=0000000010 CO", 0},
		{"f7 eb", "eax=ffffffff ebx=2 COZ", "eax=fffffffe edx=ffffffff ebx=2 Z", 0}, {"f7 eb", "eax=80000000 ebx=ffffffff", "eax=80000000 ebx=ffffffff CO", 0}, {"f7 e8", "eax=10000 D", "edx=1 COD", 0}, {"f7 2b", "eax=fffffffd m=feffffff PS", "eax=6 m=feffffff PS", 0},
		{"0f af c3", "eax=fffffffd ebx=5 COP", "eax=fffffff1 ebx=5 P", 0}, {"0f af c3", "eax=10000 ebx=10000 edx=9", "ebx=10000 edx=9 CO", 0}, {"0f af 03", "eax=40000000 m=02", "eax=80000000 m=02 CO", 0}, {"0f af c0", "eax=7 D", "eax=31 D", 0},
		{"6b c3 fe", "eax=9 ebx=5 CO", "eax=fffffff6 ebx=5", 0}, {"69 c3 00 00 01 00", "eax=9 ebx=10000 Z", "ebx=10000 CZO", 0}, {"69 43 04 03 00 00 00", "m=00000000fffffffe", "eax=fcfffffd m=00000000fffffffe", 0}, {"6b ed 7f", "ebp=2 S", "ebp=fe S", 0}, {"6b c3 00", "eax=9 ebx=5", "ebx=5", 0},
	})
}

func TestQuotients(t *testing.T) {
	hold(t, []row{
		{"f7 f3", "eax=7 ebx=2 CPZSOD", "eax=3 edx=1 ebx=2 CPZSOD", 0}, {"f7 f3", "eax=5 edx=1 ebx=2", "eax=80000002 edx=1 ebx=2", 0}, {"f7 f3", "eax=ffffffff edx=fffffffe ebx=ffffffff", "eax=ffffffff edx=fffffffe ebx=ffffffff", 0}, {"f7 33", "eax=64 m=07", "eax=e edx=2 m=07", 0},
		{"f7 f3", "eax=7 edx=2 ebx=2 C", "", api.BadDivide}, {"f7 f3", "eax=7 edx=3 ebx=2", "", api.BadDivide}, {"f7 f3", "eax=7 edx=1", "", api.BadDivide}, {"f7 f3", "", "", api.BadDivide}, {"f7 f2", "eax=7 edx=2", "", api.BadDivide}, {"f7 33", "eax=64 m=00000000ff D", "", api.BadDivide}, {"f7 73 0d", "eax=64", "", api.BadPlace},
		{"f7 f0", "eax=7", "eax=1", 0}, {"f7 f9", "eax=fffffff9 edx=ffffffff ecx=2 CZ", "eax=fffffffd edx=ffffffff ecx=2 CZ", 0}, {"f7 f9", "eax=7 ecx=fffffffe", "eax=fffffffd edx=1 ecx=fffffffe", 0}, {"f7 f9", "eax=80000000 edx=ffffffff ecx=1 O", "eax=80000000 ecx=1 O", 0}, {"f7 7b 0c", "eax=64 m=000000000000000000000000f9ffffff", "eax=fffffff2 edx=2 m=000000000000000000000000f9ffffff", 0},
		{"f7 f9", "eax=80000000 edx=ffffffff ecx=ffffffff", "", api.BadDivide}, {"f7 f9", "eax=80000000 ecx=1 P", "", api.BadDivide}, {"f7 f9", "eax=5 edx=6", "", api.BadDivide}, {"f7 3b", "eax=5 edx=6", "", api.BadDivide}, {"f7 3d 0d 00 00 00", "eax=5", "", api.BadPlace}, {"f7 f9", "edx=80000000 ecx=ffffffff", "", api.BadDivide},
	})
}

func TestMoves(t *testing.T) {
	hold(t, []row{
		{"89 d8", "ebx=12345678 CPZSOD", "eax=12345678 ebx=12345678 CPZSOD", 0}, {"88 df", "ebx=12345678", "ebx=12347878", 0}, {"8a e0", "eax=1122", "eax=2222", 0}, {"b4 ff", "eax=11223344", "eax=1122ff44", 0}, {"bc ff 00 00 80", "", "esp=800000ff", 0},
		{"88 63 02", "eax=1122 m=ffffffff", "eax=1122 m=ffff11ff", 0}, {"89 43 01", "eax=11223344 m=ffffffffffff", "eax=11223344 m=ff44332211ff", 0}, {"8b 43 0c", "m=00000000000000000000000044332211", "eax=11223344 m=00000000000000000000000044332211", 0}, {"8b 1b", "ebx=1 m=ffaabbccdd C", "ebx=ddccbbaa m=ffaabbccdd C", 0}, {"8a 1b", "ebx=101", "", api.BadPlace},
		{"a0 0f 00 00 00", "eax=ffff m=00000000000000000000000000000033", "eax=ff33 m=00000000000000000000000000000033", 0}, {"a3 0c 00 00 00", "eax=11223344", "eax=11223344 m=00000000000000000000000044332211", 0}, {"c6 43 01 80", "m=ffffff", "m=ff80ff", 0}, {"c7 43 01 04 03 02 81", "m=ffffffffffff", "m=ff04030281ff", 0},
		{"0f b6 c3", "eax=ffffffff ebx=1ff CZ", "eax=ff ebx=1ff CZ", 0}, {"0f b6 c7", "ebx=80ff", "eax=80 ebx=80ff", 0}, {"0f b7 c3", "eax=ffffffff ebx=1ffff", "eax=ffff ebx=1ffff", 0}, {"0f b6 43 0f", "eax=ffffffff m=00000000000000000000000000000081", "eax=81 m=00000000000000000000000000000081", 0}, {"0f b7 43 0e", "m=00000000000000000000000000000281", "eax=8102 m=00000000000000000000000000000281", 0}, {"0f b7 43 0f", "eax=1", "", api.BadPlace},
		{"0f be c3", "ebx=17f O", "eax=7f ebx=17f O", 0}, {"0f be c7", "ebx=807f SD", "eax=ffffff80 ebx=807f SD", 0}, {"0f bf c3", "ebx=18000", "eax=ffff8000 ebx=18000", 0}, {"0f bf c0", "eax=87654321", "eax=4321", 0}, {"0f be 43 01", "m=7fff7f", "eax=ffffffff m=7fff7f", 0}, {"0f bf 43 01", "m=007fff00", "eax=ffffff7f m=007fff00", 0}, {"0f be 43 10", "eax=1", "", api.BadPlace},
		{"8d 44 98 08", "eax=10 ebx=3 CZ", "eax=24 ebx=3 CZ", 0}, {"8d 43 ff", "", "eax=ffffffff", 0}, {"8d 1b", "ebx=77777777", "ebx=77777777", 0}, {"8d 64 24 fc", "esp=100 P", "esp=fc P", 0}, {"8d 05 ef be ad de", "eax=1", "eax=deadbeef", 0},
		{"98", "eax=12348000 C", "eax=ffff8000 C", 0}, {"98", "eax=ffff7fff Z", "eax=7fff Z", 0}, {"99", "eax=80000000 edx=5 S", "eax=80000000 edx=ffffffff S", 0}, {"99", "eax=7fffffff edx=5", "eax=7fffffff", 0}, {"90", "eax=1 ecx=2 CPZSOD m=05", "eax=1 ecx=2 CPZSOD m=05", 0},
	})
}

func TestXchg(t *testing.T) {
	hold(t, []row{
		{"93", "eax=1 ebx=2 CPZSOD", "eax=2 ebx=1 CPZSOD", 0}, {"87 c0", "eax=5", "eax=5", 0}, {"86 e0", "eax=11223344", "eax=11224433", 0}, {"86 fb", "ebx=aa55", "ebx=55aa", 0}, {"94", "eax=1 esp=ffffffff", "eax=ffffffff esp=1", 0},
		{"87 4b 02", "ecx=11223344 m=ffffaabbccddff Z", "ecx=ddccbbaa m=ffff44332211ff Z", 0}, {"86 6b 0f", "ecx=11223344 m=0000000000000000000000000000007f", "ecx=11227f44 m=00000000000000000000000000000033", 0},
		// The register says the place: it is what it was.
		{"87 1b", "ebx=4 m=0000000011223344", "ebx=44332211 m=0000000004000000", 0}, {"86 1b", "ebx=4 m=0000000009", "ebx=9 m=0000000004", 0}, {"87 5c 9b fc", "ebx=1 m=00112233445566", "ebx=44332211 m=00010000005566", 0},
		{"87 4b 0d", "ecx=11223344 m=ffffaabbccddff", "", api.BadPlace}, {"86 0b", "ecx=11223344 ebx=10", "", api.BadPlace}, {"87 1b", "ebx=ffffffff Z", "", api.BadPlace},
	})
}

func TestShifts(t *testing.T) {
	hold(t, []row{
		{"c1 e0 1f", "eax=1 D", "eax=80000000 PSOD", 0}, {"c1 e8 04", "eax=80000018 Z", "eax=8000001 CO", 0}, {"c1 f8 04", "eax=80000010 O", "eax=f8000001 S", 0}, {"c1 c0 08", "eax=12345678 PZS", "eax=34567812 PZS", 0}, {"c1 c8 08", "eax=12345678", "eax=78123456 O", 0},
		{"d1 e0", "eax=80000001", "eax=2 CO", 0}, {"d1 eb", "ebx=1", "CPZ", 0}, {"d1 fb", "ebx=ffffffff", "ebx=ffffffff CPS", 0}, {"d1 c3", "ebx=80000000", "ebx=1 CO", 0}, {"d1 cb", "ebx=1", "ebx=80000000 CO", 0},
		{"d3 e3", "ebx=1 ecx=ffffff04", "ebx=10 ecx=ffffff04", 0}, {"d3 e1", "ecx=103", "ecx=818 P", 0}, {"d3 eb", "ebx=ff ecx=24", "ebx=f ecx=24 CP", 0}, {"d3 7b 01", "ecx=8 m=000000008000", "ecx=8 m=00000080ff PS", 0},
		// Of a count of 0, 32 or 256 nothing is to be seen.
		{"c1 e0 00", "eax=80000001 CPZSOD", "eax=80000001 CPZSOD", 0}, {"c1 e0 20", "eax=80000001 O", "eax=80000001 O", 0}, {"d3 e0", "eax=80000001 ecx=100 C", "eax=80000001 ecx=100 C", 0}, {"d3 63 0c", "ecx=20 m=00000000000000000000000001020304 PZ", "ecx=20 m=00000000000000000000000001020304 PZ", 0},
		{"c1 63 0c 01", "m=000000000000000000000000000000c0", "m=00000000000000000000000000000080 CPS", 0}, {"c1 63 0d 00", "m=0102", "", api.BadPlace}, {"d3 2d ff ff ff ff", "ecx=3", "", api.BadPlace}, {"d1 03", "ebx=80000000", "", api.BadPlace},
	})
}

func TestMarks(t *testing.T) {
	hold(t, []row{
		{"f8", "CPZSOD eax=1", "PZSOD eax=1", 0}, {"f8", "D", "D", 0}, {"f9", "PZ", "CPZ", 0}, {"f9", "CSO", "CSO", 0}, {"f5", "CD", "D", 0}, {"f5", "PZSO", "CPZSO", 0},
		{"fc", "CPZSOD", "CPZSO", 0}, {"fc", "O", "O", 0}, {"fd", "CP", "CPD", 0}, {"fd", "D", "D", 0},
	})
}

// conditions: what chapter 5 says of each.
func conditions(f api.Flags) []bool {
	return []bool{f.O, !f.O, f.C, !f.C, f.Z, !f.Z, f.C || f.Z, !f.C && !f.Z, f.S, !f.S, f.P, !f.P, f.S != f.O, f.S == f.O, f.Z || f.S != f.O, !f.Z && f.S == f.O}
}

func TestConditions(t *testing.T) {
	for _, f := range marks.All() {
		for c, holds := range conditions(f) {
			m := told(t, "eax=11223344 ecx=4 m=a1a2a3a4a5a6a7a8")
			m.State.F = f
			set, row, moved, loaded := m.Clone(), m.Clone(), m.Clone(), m.Clone()
			set.State.R[api.EAX], row.Data[5] = 0x11220044, 0
			if holds {
				set.State.R[api.EAX], row.Data[5] = 0x11220144, 1
				moved.State.R[api.EAX], loaded.State.R[api.EAX] = 4, 0xa8a7a6a5
			}
			done(t, "P15.2: Setcc", m, on(c, "0f 90 c4"), set, api.Going)
			done(t, "P15.2: Setcc", m, on(c, "0f 90 41 01"), row, api.Going)
			done(t, "P15.2: Cmov", m, on(c, "0f 40 c1"), moved, api.Going)
			done(t, "P15.2: Cmov", m, on(c, "0f 40 01"), loaded, api.Going)
			// B is loaded whether it holds or not.
			done(t, "P15.3: Cmov", m, on(c, "0f 40 41 09"), m, api.BadPlace)
			done(t, "P15.3: Setcc", m, on(c, "0f 90 41 0c"), m, api.BadPlace)
		}
	}
}

// on answers an instruction with another condition.
func on(c int, bytes string) api.Instr {
	i := instrs.One(bytes)
	i.Cond = c
	return i
}

// An Op that Is doesn't tell doesn't end the program, nor does an Instr of noughts.
func TestOthersEnd(t *testing.T) {
	m := machines.New(states.Full(), machines.Open(api.DataAt, 16))
	all := append(operands.Like(api.Add), operands.Like(api.Nop)...)
	for op := -3; op < api.Ops+3; op++ {
		all = append(all, op)
	}
	for _, op := range all {
		for _, o := range []api.Operand{{}, operands.None(), operands.Reg(8), operands.Low(-1), {Kind: api.Mem, Base: 77, Index: -9}, {Kind: 99}} {
			for _, size := range []int{0, 1, 3, 4, 8, -1} {
				b := m.Bus()
				alu.Do(b, m.State, api.Instr{Op: op, Cond: size - 3, Size: size, A: o, B: o})
				code, data := b.Segs()
				if was, seg := m.Bus().Segs(); code != was || data != seg {
					t.Errorf("P15.1: operation %d: segments %+v, %+v", op, code, data)
				}
				if row := b.Memory().Read(data.Base-16, 16); !bytes.Equal(row, m.Bus().Memory().Read(data.Base-16, 16)) {
					t.Errorf("P15.1: operation %d: before data is % x", op, row)
				}
			}
		}
	}
}
