package decode

import (
	"bytes"
	"maps"
	"math/rand"
	"slices"
	"testing"

	"saltern/api"
)

// list holds All of these bytes against the chart, instruction by instruction.
func list(t *testing.T, all charted, b []byte) {
	t.Helper()
	var want []api.Instr
	for at := 0; at < len(b); {
		i, err := all.want(b[at:])
		if err != api.OK {
			listNone(t, b, at, err)
			return
		}
		want = append(want, i)
		at += i.Len
	}
	if got, at, err := All(b); !slices.Equal(got, want) || at != 0 || err != api.OK {
		t.Fatalf("P10.2: All(% x): %+v, %d, %d, not %+v", b, got, at, err, want)
	}
}

// listNone asks that All tells a place and an error alone.
func listNone(t *testing.T, b []byte, at int, err api.Errno) {
	t.Helper()
	if got, gotAt, gotErr := All(b); len(got) != 0 || gotAt != at || gotErr != err {
		t.Fatalf("P10.2: All(% x): %+v, %d, %d, not none, %d, %d", b, got, gotAt, gotErr, at, err)
	}
}

// kinds: the bytes of one instruction of each row of the chart and each reg, of a register (but for Lea) and of memory.
func kinds() [][]byte {
	var each [][]byte
	all := rows()
	for _, code := range slices.Sorted(maps.Keys(all)) {
		for _, r := range slices.Sorted(maps.Keys(all[code])) {
			for _, first := range []byte{0xc2, 0x02, 0x44, 0x85} {
				b := append([]byte(code), first|byte(max(r, 0)<<3), 0x98, 0x83, 0x94, 0xa5, 0xb6, 0xc7, 0xd8, 0xe9, 0xfa)
				if i, err := all.want(b); err == api.OK {
					each = append(each, b[:i.Len])
				}
			}
		}
	}
	return each
}

func TestAllByHand(t *testing.T) {
	b := unhex("b8 01 00 00 00 83 e0 e0 ff e0 f3 a4 f2 0f 58 c1 90")
	want := []api.Instr{
		ins(api.Mov, 4, reg(0), imm(1), 5), ins(api.And, 4, reg(0), imm(0xffffffe0), 3), ins(api.Jmp, 4, reg(0), none(), 2),
		rep(ins(api.Movs, 1, none(), none(), 2)), ins(api.Addd, 8, dbl(0), dbl(1), 4), ins(api.Nop, 0, none(), none(), 1),
	}
	if got, at, err := All(b); !slices.Equal(got, want) || at != 0 || err != api.OK {
		t.Fatalf("P10.2: All(% x): %+v, %d, %d", b, got, at, err)
	}
	for at, n := 0, 0; n < len(want); n++ {
		if got, _, err := All(b[at : at+want[n].Len]); !slices.Equal(got, want[n:n+1]) || err != api.OK {
			t.Fatalf("P10.2: All(% x): %+v, %d", b[at:at+want[n].Len], got, err)
		}
		at += want[n].Len
	}
}

func TestAllOfNoBytes(t *testing.T) {
	for _, b := range [][]byte{nil, {}} {
		if got, at, err := All(b); len(got) != 0 || at != 0 || err != api.OK {
			t.Errorf("P10.2: All of no bytes: %+v, %d, %d", got, at, err)
		}
	}
}

func TestAllWithOneThatIsNone(t *testing.T) {
	for _, x := range []struct {
		b   string
		at  int
		err api.Errno
	}{
		{"06", 0, api.ErrInstr}, {"06 90", 0, api.ErrInstr}, {"8d c0", 0, api.ErrInstr}, {"f3 90", 0, api.ErrInstr}, {"f2", 0, api.ErrShort}, {"b8 01 02 03", 0, api.ErrShort},
		{"90 06 90", 1, api.ErrInstr}, {"90 83 e0 e0 0f 05 90", 4, api.ErrInstr}, {"90 ff d8 ff", 1, api.ErrInstr}, {"06 06", 0, api.ErrInstr}, {"90 06 90 06", 1, api.ErrInstr},
		{"90 90 06", 2, api.ErrInstr}, {"83 e0 e0 8d c0", 3, api.ErrInstr}, {"83 e0 e0 8f 4c", 3, api.ErrInstr},
		{"90 f3", 1, api.ErrShort}, {"90 0f", 1, api.ErrShort}, {"90 90 83 e0", 2, api.ErrShort}, {"a4 f2 0f", 1, api.ErrShort}, {"a4 66 0f 2e 44 24", 1, api.ErrShort}, {"c3 c2 00", 1, api.ErrShort}, {"c3 e8 00 00 00", 1, api.ErrShort}, {"c3 8d", 1, api.ErrShort},
		{"06 b8", 0, api.ErrInstr}, {"90 06 b8", 1, api.ErrInstr},
	} {
		listNone(t, unhex(x.b), x.at, x.err)
	}
}

// All kinds one behind another; then with one that is none ahead of each of them, and cut within each of them.
func TestAllOfAllKinds(t *testing.T) {
	all, each := rows(), kinds()
	b := slices.Concat(each...)
	list(t, all, b)
	if got, _, _ := All(b); len(got) != len(each) {
		t.Fatalf("P10.2: All of %d instructions: %d", len(each), len(got))
	}
	for k := range each {
		before := slices.Concat(each[max(0, k-3):k]...)
		behind := slices.Concat(each[k:min(k+3, len(each))]...)
		for _, none := range []string{"06", "8dc0", "f3c3", "f2ff", "660f2f", "0f05", "8f4c", "ffbd"} {
			listNone(t, slices.Concat(before, unhex(none), behind), len(before), api.ErrInstr)
			listNone(t, slices.Concat(before, unhex(none)), len(before), api.ErrInstr)
		}
		for n := 1; n < len(each[k]); n++ {
			listNone(t, append(slices.Clone(before), each[k][:n]...), len(before), api.ErrShort)
		}
	}
	listNone(t, append(slices.Clone(b), 0xf1), len(b), api.ErrInstr)
	listNone(t, append(slices.Clone(b), 0x68), len(b), api.ErrShort)
	listNone(t, append([]byte{0xf1}, b...), 0, api.ErrInstr)
}

func TestAllOfAnyKinds(t *testing.T) {
	all, each := rows(), kinds()
	picks := rand.New(rand.NewSource(1000))
	for range 3000 {
		var b []byte
		for range picks.Intn(40) {
			b = append(b, each[picks.Intn(len(each))]...)
		}
		list(t, all, b)
		list(t, all, b[:picks.Intn(len(b)+1)])
		if len(b) > 0 {
			b[picks.Intn(len(b))] = byte(picks.Intn(256))
			list(t, all, b)
		}
	}
}

// Neither bytes nor the room behind them are changed, and what is answered is memory of its own.
func TestAllAnswersNewMemory(t *testing.T) {
	b := slices.Concat(kinds()...)
	before := slices.Clone(b)
	got, _, _ := All(b[: len(b)-1 : len(b)])
	if len(got) != 0 || !bytes.Equal(b, before) {
		t.Fatal("P10.2: All of bytes whose last is in the room behind")
	}
	got, _, _ = All(b)
	want := slices.Clone(got)
	clear(b)
	if !slices.Equal(got, want) {
		t.Fatal("P10.2: All kept its bytes")
	}
	again, _, _ := All(before)
	clear(again[:cap(again)])
	if once, _, _ := All(before); !slices.Equal(got, want) || !slices.Equal(once, want) {
		t.Fatal("P10.2: two answers of All share memory")
	}
}
