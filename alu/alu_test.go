package alu_test

import (
	"bytes"
	"testing"

	"saltern/alu"
	"saltern/api"
	"saltern/instrs"
	"saltern/machines"
	"saltern/marks"
	"saltern/operands"
	"saltern/states"
)

// told: see machines.Told.
func told(t *testing.T, words string) machines.Machine {
	t.Helper()
	return machines.Told(t, words)
}

// done holds Do against what it should be.
func done(t *testing.T, promise string, m machines.Machine, i api.Instr, want machines.Machine, end int) {
	t.Helper()
	machines.Do(alu.Do).Done(t, promise, m, i, want, end)
}

// hold holds Do of rows against what they say.
func hold(t *testing.T, rows []machines.Row) {
	t.Helper()
	machines.Do(alu.Do).Hold(t, "P15.2", "P15.3", rows)
}

func TestIs(t *testing.T) {
	known := map[int]int{}
	for _, op := range []int{
		api.Add, api.Or, api.Adc, api.Sbb, api.And, api.Sub, api.Xor, api.Cmp, api.Test, api.Not, api.Neg, api.Mul, api.Imul, api.Div, api.Idiv, api.Inc, api.Dec, api.Mov, api.Movzx, api.Movsx, api.Lea, api.Xchg,
		api.Times, api.Rol, api.Ror, api.Shl, api.Shr, api.Sar, api.Setcc, api.Cmov, api.Cwde, api.Cdq, api.Clc, api.Stc, api.Cmc, api.Cld, api.Std, api.Nop,
	} {
		known[op]++
	}
	var asked []int
	for op := -100; op < 200; op++ {
		asked = append(asked, op)
		asked = append(asked, operands.Like(op)...)
	}
	for _, op := range asked {
		if got := alu.Is(op); got != (known[op] == 1) {
			t.Errorf("P15.1: Is(%d): %t", op, got)
		}
	}
}

func TestSums(t *testing.T) {
	hold(t, []machines.Row{
		{"01 d8", "eax=1 ebx=2", "eax=3 ebx=2 P"}, {"01 d8", "eax=ffffffff ebx=1 D", "ebx=1 CPZD"}, {"03 c3", "eax=7fffffff ebx=1 CZ", "eax=80000000 ebx=1 PSO"},
		{"01 c0", "eax=80000001", "eax=2 CO"}, {"00 d8", "eax=1234ff ebx=5601", "eax=123400 ebx=5601 CPZ"}, {"00 fc", "eax=12ff ebx=3401", "eax=46ff ebx=3401"},
		{"04 80", "eax=ff80", "eax=ff00 CPZO"}, {"05 00 00 00 80", "eax=80000000", "CPZO"}, {"83 c0 80", "eax=80", "CPZ"}, {"80 c4 ff", "eax=100", "CPZ"},
		{"01 43 04", "eax=1020304 m=00000000fffefdfc01", "eax=1020304 m=00000000030200fe01 PS"},
		{"00 43 04", "eax=81 ebx=1 m=000000000080ff", "eax=81 ebx=1 m=000000000001ff CO"}, {"03 43 0c", "eax=2 m=000000000000000000000000ffffffff", "eax=1 m=000000000000000000000000ffffffff C"}, {"02 43 0f", "eax=2f0 m=0000000000000000000000000000000f", "eax=2ff m=0000000000000000000000000000000f PS"},
		{"11 d8", "eax=1 ebx=2", "eax=3 ebx=2 P"}, {"11 d8", "eax=1 ebx=2 C", "eax=4 ebx=2"}, {"11 d8", "eax=ffffffff C", "CPZ"}, {"10 d8", "eax=7f C", "eax=80 SO"}, {"83 d0 ff", "eax=0 C", "CPZ"}, {"83 d0 ff", "eax=0", "eax=ffffffff PS"},
		{"19 d8", "eax=3 ebx=2", "eax=1 ebx=2"}, {"19 d8", "eax=3 ebx=2 C", "ebx=2 PZ"}, {"19 d8", "eax=2 ebx=2 C", "eax=ffffffff ebx=2 CPS"}, {"18 d8", "eax=80 ebx=7f C", "eax=0 ebx=7f PZO"}, {"1c ff", "eax=5 CD", "eax=5 CPD"},
		{"29 d8", "eax=3 ebx=2 C", "eax=1 ebx=2"}, {"29 d8", "eax=1 ebx=2", "eax=ffffffff ebx=2 CPS"}, {"2d 01 00 00 00", "eax=80000000", "eax=7fffffff PO"}, {"29 c0", "eax=77 COS", "PZ"}, {"28 43 01", "eax=1 m=ff00ff", "eax=1 m=ffffff CPS"},
		{"39 d8", "eax=3 ebx=2 C", "eax=3 ebx=2"}, {"39 d8", "eax=1 ebx=2 D", "eax=1 ebx=2 CPSD"}, {"38 43 01", "eax=1 m=ff00ff", "eax=1 m=ff00ff CPS"}, {"3d 01 00 00 00", "eax=80000000", "eax=80000000 PO"}, {"3c 05", "eax=705", "eax=705 PZ"},
		{"f7 d8", "eax=1", "eax=ffffffff CPS"}, {"f7 d8", "eax=0 CSO", "PZ"}, {"f7 d8", "eax=80000000 D", "eax=80000000 CPSOD"}, {"f6 dc", "eax=80ff C", "eax=80ff CSO"}, {"f6 5b 02", "m=0000050000", "m=0000fb0000 CS"},
	})
}

func TestLogic(t *testing.T) {
	hold(t, []machines.Row{
		{"21 d8", "eax=ff00ff0f ebx=80808080 COZD", "eax=80008000 ebx=80808080 PSD"}, {"83 e0 e0", "eax=1003f", "eax=10020 "}, {"20 e0", "eax=f00f C", "eax=f000 PZ"}, {"25 00 00 00 80", "eax=7fffffff", "PZ"}, {"21 43 02", "eax=ff m=ffffffffffffff", "eax=ff m=ffffff000000ff P"},
		{"09 d8", "eax=f0 ebx=700 COZD", "eax=7f0 ebx=700 PD"}, {"0a 03", "eax=1100 m=81", "eax=1181 m=81 PS"}, {"80 0b 0c", "m=3011", "m=3c11 P"}, {"83 c8 ff", "CZ", "eax=ffffffff PS"},
		{"31 c0", "eax=7 CPSO", "PZ"}, {"30 c4", "eax=ff01 O", "eax=fe01 S"}, {"35 ff ff ff ff", "eax=80000000 C", "eax=7fffffff P"},
		{"85 d8", "eax=f0 ebx=10f CO", "eax=f0 ebx=10f PZ"}, {"85 c0", "eax=80000001", "eax=80000001 S"}, {"a8 80", "eax=ff CD", "eax=ff SD"}, {"f6 03 0f", "m=f3f3", "m=f3f3 P"}, {"f7 43 0c 00 00 00 80", "m=000000000000000000000000000000ff", "m=000000000000000000000000000000ff PS"},
		{"f7 d0", "eax=ff CZ", "eax=ffffff00 CZ"}, {"f6 d4", "eax=1200 D", "eax=ed00 D"}, {"f6 53 01", "m=000f00 PSO", "m=00f000 PSO"}, {"f7 13", "m=000f0080aa", "m=fff0ff7faa"},
	})
}

func TestSteps(t *testing.T) {
	hold(t, []machines.Row{
		// The chapter's example: C stays.
		{"40", "eax=ffffffff C", "CPZ"}, {"40", "eax=ffffffff", "PZ"}, {"40", "eax=7fffffff C", "eax=80000000 CPSO"}, {"47", "edi=1 COD", "edi=2 CD"}, {"fe c4", "eax=ffff", "eax=ff PZ"}, {"fe 43 03", "m=0000007f00 C", "m=0000008000 CSO"}, {"ff 03", "m=ffff00ff", "m=000001ff PS"},
		{"48", "eax=0", "eax=ffffffff PS"}, {"48", "eax=1 CS", "CPZ"}, {"4c", "esp=80000000", "esp=7fffffff PO"}, {"fe c8", "eax=100 C", "eax=1ff CPS"}, {"ff 4b 04", "m=aabbccdd00000100", "m=aabbccddffff0000 P"},
	})
}

func TestProducts(t *testing.T) {
	hold(t, []machines.Row{
		{"f7 e3", "eax=80000000 ebx=2 ZD", "edx=1 ebx=2 CZOD"}, {"f7 e3", "eax=ffff ebx=10001 edx=7 COPS", "eax=ffffffff ebx=10001 PS"}, {"f7 e2", "eax=ffffffff edx=ffffffff", "eax=1 edx=fffffffe CO"}, {"f7 e0", "eax=10000", "edx=1 CO"}, {"f7 63 01", "eax=10 m=0000000010", "edx=1 m=0000000010 CO"},
		{"f7 eb", "eax=ffffffff ebx=2 COZ", "eax=fffffffe edx=ffffffff ebx=2 Z"}, {"f7 eb", "eax=80000000 ebx=ffffffff", "eax=80000000 ebx=ffffffff CO"}, {"f7 e8", "eax=10000 D", "edx=1 COD"}, {"f7 2b", "eax=fffffffd m=feffffff PS", "eax=6 m=feffffff PS"},
		{"0f af c3", "eax=fffffffd ebx=5 COP", "eax=fffffff1 ebx=5 P"}, {"0f af c3", "eax=10000 ebx=10000 edx=9", "ebx=10000 edx=9 CO"}, {"0f af 03", "eax=40000000 m=02", "eax=80000000 m=02 CO"}, {"0f af c0", "eax=7 D", "eax=31 D"},
		{"6b c3 fe", "eax=9 ebx=5 CO", "eax=fffffff6 ebx=5"}, {"69 c3 00 00 01 00", "eax=9 ebx=10000 Z", "ebx=10000 CZO"}, {"69 43 04 03 00 00 00", "m=00000000fffffffe", "eax=fcfffffd m=00000000fffffffe"}, {"6b ed 7f", "ebp=2 S", "ebp=fe S"}, {"6b c3 00", "eax=9 ebx=5", "ebx=5"},
	})
}

func TestQuotients(t *testing.T) {
	hold(t, []machines.Row{
		{"f7 f3", "eax=7 ebx=2 CPZSOD", "eax=3 edx=1 ebx=2 CPZSOD"}, {"f7 f3", "eax=5 edx=1 ebx=2", "eax=80000002 edx=1 ebx=2"}, {"f7 f3", "eax=ffffffff edx=fffffffe ebx=ffffffff", "eax=ffffffff edx=fffffffe ebx=ffffffff"}, {"f7 33", "eax=64 m=07", "eax=e edx=2 m=07"},
		{"f7 f3", "eax=7 edx=2 ebx=2 C", "BadDivide"}, {"f7 f3", "eax=7 edx=3 ebx=2", "BadDivide"}, {"f7 f3", "eax=7 edx=1", "BadDivide"}, {"f7 f3", "", "BadDivide"}, {"f7 f2", "eax=7 edx=2", "BadDivide"}, {"f7 33", "eax=64 m=00000000ff D", "BadDivide"}, {"f7 73 0d", "eax=64", "BadPlace"},
		{"f7 f0", "eax=7", "eax=1"}, {"f7 f9", "eax=fffffff9 edx=ffffffff ecx=2 CZ", "eax=fffffffd edx=ffffffff ecx=2 CZ"}, {"f7 f9", "eax=7 ecx=fffffffe", "eax=fffffffd edx=1 ecx=fffffffe"}, {"f7 f9", "eax=80000000 edx=ffffffff ecx=1 O", "eax=80000000 ecx=1 O"}, {"f7 7b 0c", "eax=64 m=000000000000000000000000f9ffffff", "eax=fffffff2 edx=2 m=000000000000000000000000f9ffffff"},
		{"f7 f9", "eax=80000000 edx=ffffffff ecx=ffffffff", "BadDivide"}, {"f7 f9", "eax=80000000 ecx=1 P", "BadDivide"}, {"f7 f9", "eax=5 edx=6", "BadDivide"}, {"f7 3b", "eax=5 edx=6", "BadDivide"}, {"f7 3d 0d 00 00 00", "eax=5", "BadPlace"}, {"f7 f9", "edx=80000000 ecx=ffffffff", "BadDivide"},
	})
}

func TestMoves(t *testing.T) {
	hold(t, []machines.Row{
		{"89 d8", "ebx=12345678 CPZSOD", "eax=12345678 ebx=12345678 CPZSOD"}, {"88 df", "ebx=12345678", "ebx=12347878"}, {"8a e0", "eax=1122", "eax=2222"}, {"b4 ff", "eax=11223344", "eax=1122ff44"}, {"bc ff 00 00 80", "", "esp=800000ff"},
		{"88 63 02", "eax=1122 m=ffffffff", "eax=1122 m=ffff11ff"}, {"89 43 01", "eax=11223344 m=ffffffffffff", "eax=11223344 m=ff44332211ff"}, {"8b 43 0c", "m=00000000000000000000000044332211", "eax=11223344 m=00000000000000000000000044332211"}, {"8b 1b", "ebx=1 m=ffaabbccdd C", "ebx=ddccbbaa m=ffaabbccdd C"}, {"8a 1b", "ebx=101", "BadPlace"},
		{"a0 0f 00 00 00", "eax=ffff m=00000000000000000000000000000033", "eax=ff33 m=00000000000000000000000000000033"}, {"a3 0c 00 00 00", "eax=11223344", "eax=11223344 m=00000000000000000000000044332211"}, {"c6 43 01 80", "m=ffffff", "m=ff80ff"}, {"c7 43 01 04 03 02 81", "m=ffffffffffff", "m=ff04030281ff"},
		{"0f b6 c3", "eax=ffffffff ebx=1ff CZ", "eax=ff ebx=1ff CZ"}, {"0f b6 c7", "ebx=80ff", "eax=80 ebx=80ff"}, {"0f b7 c3", "eax=ffffffff ebx=1ffff", "eax=ffff ebx=1ffff"}, {"0f b6 43 0f", "eax=ffffffff m=00000000000000000000000000000081", "eax=81 m=00000000000000000000000000000081"}, {"0f b7 43 0e", "m=00000000000000000000000000000281", "eax=8102 m=00000000000000000000000000000281"}, {"0f b7 43 0f", "eax=1", "BadPlace"},
		{"0f be c3", "ebx=17f O", "eax=7f ebx=17f O"}, {"0f be c7", "ebx=807f SD", "eax=ffffff80 ebx=807f SD"}, {"0f bf c3", "ebx=18000", "eax=ffff8000 ebx=18000"}, {"0f bf c0", "eax=87654321", "eax=4321"}, {"0f be 43 01", "m=7fff7f", "eax=ffffffff m=7fff7f"}, {"0f bf 43 01", "m=007fff00", "eax=ffffff7f m=007fff00"}, {"0f be 43 10", "eax=1", "BadPlace"},
		{"8d 44 98 08", "eax=10 ebx=3 CZ", "eax=24 ebx=3 CZ"}, {"8d 43 ff", "", "eax=ffffffff"}, {"8d 1b", "ebx=77777777", "ebx=77777777"}, {"8d 64 24 fc", "esp=100 P", "esp=fc P"}, {"8d 05 ef be ad de", "eax=1", "eax=deadbeef"},
		{"98", "eax=12348000 C", "eax=ffff8000 C"}, {"98", "eax=ffff7fff Z", "eax=7fff Z"}, {"99", "eax=80000000 edx=5 S", "eax=80000000 edx=ffffffff S"}, {"99", "eax=7fffffff edx=5", "eax=7fffffff"}, {"90", "eax=1 ecx=2 CPZSOD m=05", "eax=1 ecx=2 CPZSOD m=05"},
	})
}

func TestXchg(t *testing.T) {
	hold(t, []machines.Row{
		{"93", "eax=1 ebx=2 CPZSOD", "eax=2 ebx=1 CPZSOD"}, {"87 c0", "eax=5", "eax=5"}, {"86 e0", "eax=11223344", "eax=11224433"}, {"86 fb", "ebx=aa55", "ebx=55aa"}, {"94", "eax=1 esp=ffffffff", "eax=ffffffff esp=1"},
		{"87 4b 02", "ecx=11223344 m=ffffaabbccddff Z", "ecx=ddccbbaa m=ffff44332211ff Z"}, {"86 6b 0f", "ecx=11223344 m=0000000000000000000000000000007f", "ecx=11227f44 m=00000000000000000000000000000033"},
		// The register says the place: it is what it was.
		{"87 1b", "ebx=4 m=0000000011223344", "ebx=44332211 m=0000000004000000"}, {"86 1b", "ebx=4 m=0000000009", "ebx=9 m=0000000004"}, {"87 5c 9b fc", "ebx=1 m=00112233445566", "ebx=44332211 m=00010000005566"},
		{"87 4b 0d", "ecx=11223344 m=ffffaabbccddff", "BadPlace"}, {"86 0b", "ecx=11223344 ebx=10", "BadPlace"}, {"87 1b", "ebx=ffffffff Z", "BadPlace"},
	})
}

func TestShifts(t *testing.T) {
	hold(t, []machines.Row{
		{"c1 e0 1f", "eax=1 D", "eax=80000000 PSOD"}, {"c1 e8 04", "eax=80000018 Z", "eax=8000001 CO"}, {"c1 f8 04", "eax=80000010 O", "eax=f8000001 S"}, {"c1 c0 08", "eax=12345678 PZS", "eax=34567812 PZS"}, {"c1 c8 08", "eax=12345678", "eax=78123456 O"},
		{"d1 e0", "eax=80000001", "eax=2 CO"}, {"d1 eb", "ebx=1", "CPZ"}, {"d1 fb", "ebx=ffffffff", "ebx=ffffffff CPS"}, {"d1 c3", "ebx=80000000", "ebx=1 CO"}, {"d1 cb", "ebx=1", "ebx=80000000 CO"},
		{"d3 e3", "ebx=1 ecx=ffffff04", "ebx=10 ecx=ffffff04"}, {"d3 e1", "ecx=103", "ecx=818 P"}, {"d3 eb", "ebx=ff ecx=24", "ebx=f ecx=24 CP"}, {"d3 7b 01", "ecx=8 m=000000008000", "ecx=8 m=00000080ff PS"},
		// Of a count of 0, 32 or 256 nothing is to be seen.
		{"c1 e0 00", "eax=80000001 CPZSOD", "eax=80000001 CPZSOD"}, {"c1 e0 20", "eax=80000001 O", "eax=80000001 O"}, {"d3 e0", "eax=80000001 ecx=100 C", "eax=80000001 ecx=100 C"}, {"d3 63 0c", "ecx=20 m=00000000000000000000000001020304 PZ", "ecx=20 m=00000000000000000000000001020304 PZ"},
		{"c1 63 0c 01", "m=000000000000000000000000000000c0", "m=00000000000000000000000000000080 CPS"}, {"c1 63 0d 00", "m=0102", "BadPlace"}, {"d3 2d ff ff ff ff", "ecx=3", "BadPlace"}, {"d1 03", "ebx=80000000", "BadPlace"},
	})
}

func TestMarks(t *testing.T) {
	hold(t, []machines.Row{
		{"f8", "CPZSOD eax=1", "PZSOD eax=1"}, {"f8", "D", "D"}, {"f9", "PZ", "CPZ"}, {"f9", "CSO", "CSO"}, {"f5", "CD", "D"}, {"f5", "PZSO", "CPZSO"},
		{"fc", "CPZSOD", "CPZSO"}, {"fc", "O", "O"}, {"fd", "CP", "CPD"}, {"fd", "D", "D"},
	})
}

// conditions: what chapter 5 says of each.
func conditions(f api.Flags) []bool {
	return []bool{f.O, !f.O, f.C, !f.C, f.Z, !f.Z, f.C || f.Z, !f.C && !f.Z, f.S, !f.S, f.P, !f.P, f.S != f.O, f.S == f.O, f.Z || f.S != f.O, !f.Z && f.S == f.O}
}

func TestConditions(t *testing.T) {
	for _, f := range marks.All() {
		for c, holds := range conditions(f) {
			m := told(t, "eax=11223344 ecx=4 m=a1a2a3a4a5a6a7a8")
			m.State.F = f
			set, row, moved, loaded := m.Clone(), m.Clone(), m.Clone(), m.Clone()
			set.State.R[api.EAX], row.Data[5] = 0x11220044, 0
			if holds {
				set.State.R[api.EAX], row.Data[5] = 0x11220144, 1
				moved.State.R[api.EAX], loaded.State.R[api.EAX] = 4, 0xa8a7a6a5
			}
			done(t, "P15.2: Setcc", m, on(c, "0f 90 c4"), set, api.Going)
			done(t, "P15.2: Setcc", m, on(c, "0f 90 41 01"), row, api.Going)
			done(t, "P15.2: Cmov", m, on(c, "0f 40 c1"), moved, api.Going)
			done(t, "P15.2: Cmov", m, on(c, "0f 40 01"), loaded, api.Going)
			// B is loaded whether it holds or not.
			done(t, "P15.3: Cmov", m, on(c, "0f 40 41 09"), m, api.BadPlace)
			done(t, "P15.3: Setcc", m, on(c, "0f 90 41 0c"), m, api.BadPlace)
		}
	}
}

// on answers an instruction with another condition.
func on(c int, bytes string) api.Instr {
	i := instrs.One(bytes)
	i.Cond = c
	return i
}

// An Op that Is doesn't tell doesn't end the program, nor does an Instr of noughts.
func TestOthersEnd(t *testing.T) {
	m := machines.New(states.Full(), machines.Open(api.DataAt, 16))
	all := append(operands.Like(api.Add), operands.Like(api.Nop)...)
	for op := -3; op < api.Ops+3; op++ {
		all = append(all, op)
	}
	for _, op := range all {
		for _, o := range []api.Operand{{}, operands.None(), operands.Reg(8), operands.Low(-1), {Kind: api.Mem, Base: 77, Index: -9}, {Kind: 99}} {
			for _, size := range []int{0, 1, 3, 4, 8, -1} {
				b := m.Bus()
				alu.Do(b, m.State, api.Instr{Op: op, Cond: size - 3, Size: size, A: o, B: o})
				code, data := b.Segs()
				if was, seg := m.Bus().Segs(); code != was || data != seg {
					t.Errorf("P15.1: operation %d: segments %+v, %+v", op, code, data)
				}
				if row := b.Memory().Read(data.Base-16, 16); !bytes.Equal(row, m.Bus().Memory().Read(data.Base-16, 16)) {
					t.Errorf("P15.1: operation %d: before data is % x", op, row)
				}
			}
		}
	}
}
