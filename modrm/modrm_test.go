package modrm

import (
	"bytes"
	"math"
	"math/rand"
	"slices"
	"testing"

	"saltern/api"
	"saltern/operands"
)

// reg and mem: operands as the chapter writes them.
var reg, mem = operands.Reg, operands.Mem

// size answers how many bytes an operand of these first two has, by quotients and rests.
func size(first, second byte) int {
	n, base := 1, first%8
	if first/64 == 3 {
		return 1
	}
	if first%8 == 4 {
		n, base = 2, second%8
	}
	if first/64 == 0 && base == 5 {
		return n + 4
	}
	return n + []int{0, 1, 4}[first/64]
}

// want answers what Read should of a row that is long enough.
func want(row []byte) (api.Operand, int, int) {
	first, second := int(row[0]), int(row[1])
	n, r := size(row[0], row[1]), first/8%8
	if first/64 == 3 {
		return reg(first % 8), r, n
	}
	o, added := mem(first%8, -1, 1, 0), n-1
	if first%8 == 4 {
		o.Base, added = second%8, n-2
		if index := second / 8 % 8; index != 4 {
			o.Index, o.Scale = index, []int{1, 2, 4, 8}[second/64]
		}
	}
	if first/64 == 0 && o.Base == 5 {
		o.Base = -1
	}
	whole := int64(0)
	for i := n - 1; i >= n-added; i-- {
		whole = whole*256 + int64(row[i])
	}
	if added == 1 && whole > 127 {
		whole += 1<<32 - 256
	}
	o.Disp = uint32(whole)
	return o, r, n
}

// read holds Read of a row of at least six bytes against what it should be.
func read(t *testing.T, row []byte) {
	t.Helper()
	o, r, n, err := Read(row)
	if wo, wr, wn := want(row); o != wo || r != wr || n != wn || err != api.OK {
		t.Fatalf("P9.1: Read(% x): %+v, %d, %d, %d, not %+v, %d, %d", row, o, r, n, err, wo, wr, wn)
	}
}

// readShort asks that Read finds too few bytes.
func readShort(t *testing.T, row []byte) {
	t.Helper()
	if o, r, n, err := Read(row); o != (api.Operand{}) || r != 0 || n != 0 || err != api.ErrShort {
		t.Fatalf("P9.1: Read(% x): %+v, %d, %d, %d, not ErrShort", row, o, r, n, err)
	}
}

// put holds Put against the bytes that it should answer.
func put(t *testing.T, r int, o api.Operand, row []byte) {
	t.Helper()
	if got, err := Put(r, o); !bytes.Equal(got, row) || err != api.OK {
		t.Fatalf("P9.2: Put(%d, %+v): % x, %d, not % x", r, o, got, err, row)
	}
}

// putNone asks that Put refuses.
func putNone(t *testing.T, r int, o api.Operand) {
	t.Helper()
	if got, err := Put(r, o); len(got) != 0 || err != api.ErrInstr {
		t.Fatalf("P9.2: Put(%d, %+v): % x, %d, not ErrInstr", r, o, got, err)
	}
}

func TestReadByHand(t *testing.T) {
	for _, x := range []struct {
		row  []byte
		o    api.Operand
		r, n int
	}{
		{[]byte{0x04, 0x24}, mem(api.ESP, -1, 1, 0), 0, 2},
		{[]byte{0x00}, mem(api.EAX, -1, 1, 0), 0, 1},
		{[]byte{0x3f}, mem(api.EDI, -1, 1, 0), 7, 1},
		{[]byte{0x0e}, mem(api.ESI, -1, 1, 0), 1, 1},
		{[]byte{0x15, 0x78, 0x56, 0x34, 0x12}, mem(-1, -1, 1, 0x12345678), 2, 5},
		{[]byte{0x45, 0x00}, mem(api.EBP, -1, 1, 0), 0, 2},
		{[]byte{0x45, 0x7f}, mem(api.EBP, -1, 1, 127), 0, 2},
		{[]byte{0x45, 0x80}, mem(api.EBP, -1, 1, 0xffffff80), 0, 2},
		{[]byte{0x6b, 0xff}, mem(api.EBX, -1, 1, 0xffffffff), 5, 2},
		{[]byte{0x99, 0x04, 0x03, 0x02, 0x01}, mem(api.ECX, -1, 1, 0x01020304), 3, 5},
		{[]byte{0x85, 0xfc, 0xff, 0xff, 0xff}, mem(api.EBP, -1, 1, 0xfffffffc), 0, 5},
		{[]byte{0x04, 0x58}, mem(api.EAX, api.EBX, 2, 0), 0, 2},
		{[]byte{0x44, 0x98, 0x08}, mem(api.EAX, api.EBX, 4, 8), 0, 3},
		{[]byte{0x74, 0x24, 0xf8}, mem(api.ESP, -1, 1, 0xfffffff8), 6, 3},
		{[]byte{0x04, 0xe4}, mem(api.ESP, -1, 1, 0), 0, 2},
		{[]byte{0x04, 0xa0}, mem(api.EAX, -1, 1, 0), 0, 2},
		{[]byte{0x04, 0x05, 0x01, 0x00, 0x00, 0x80}, mem(-1, api.EAX, 1, 0x80000001), 0, 6},
		{[]byte{0x04, 0x25, 0x01, 0x00, 0x00, 0x00}, mem(-1, -1, 1, 1), 0, 6},
		{[]byte{0x04, 0xe5, 0x01, 0x00, 0x00, 0x00}, mem(-1, -1, 1, 1), 0, 6},
		{[]byte{0x44, 0xed, 0x81}, mem(api.EBP, api.EBP, 8, 0xffffff81), 0, 3},
		{[]byte{0xbc, 0x4c, 0x01, 0x02, 0x03, 0x04}, mem(api.ESP, api.ECX, 2, 0x04030201), 7, 6},
		{[]byte{0xc0}, reg(api.EAX), 0, 1},
		{[]byte{0xc4}, reg(api.ESP), 0, 1},
		{[]byte{0xc5}, reg(api.EBP), 0, 1},
		{[]byte{0xd8}, reg(api.EAX), 3, 1},
		{[]byte{0xff}, reg(api.EDI), 7, 1},
	} {
		if o, r, n, err := Read(x.row); o != x.o || r != x.r || n != x.n || err != api.OK {
			t.Errorf("P9.1: Read(% x): %+v, %d, %d, %d, not %+v, %d, %d", x.row, o, r, n, err, x.o, x.r, x.n)
		}
	}
}

func TestReadOfEachFirstByte(t *testing.T) {
	for first := range 256 {
		for _, rest := range []string{"\x00\x00\x00\x00\x00\x00", "\xff\xff\xff\xff\xff\xff", "\x24\x11\x22\x33\x44\x55", "\x80\x91\xa2\xb3\xc4\xd5", "\x7f\x7f\x80\x7f\x80\x7f", "\x65\x80\x7f\x00\xff\x80"} {
			read(t, append([]byte{byte(first)}, rest...))
		}
	}
}

func TestReadOfEachTwoBytes(t *testing.T) {
	for first := range 256 {
		for second := range 256 {
			read(t, []byte{byte(first), byte(second), 0x85, 0x01, 0x76, 0x92})
		}
	}
}

func TestReadOfAddedBytes(t *testing.T) {
	for v := range 256 {
		b := byte(v)
		for _, rm := range []byte{0, 3, 5, 7} {
			read(t, []byte{0x40 | rm, b, 0x55, 0x66, 0x77, 0x88})
			for k := range 4 {
				row := []byte{0x80 | rm, 0x11, 0x22, 0x33, 0x44, 0x55}
				row[1+k] = b
				read(t, row)
			}
		}
		read(t, []byte{0x44, 0x35, b, 0x66, 0x77, 0x88})
		read(t, []byte{0x05, 0x01, 0x02, 0x03, b, 0x88})
		read(t, []byte{0x0c, 0x25, 0x01, 0x02, 0x03, b})
	}
}

// Of every length: too short, or as if there were nothing behind.
func TestReadOfEachLength(t *testing.T) {
	readShort(t, nil)
	readShort(t, []byte{})
	for first := range 256 {
		for second := range 256 {
			row := []byte{byte(first), byte(second), 0x83, 0x94, 0xa5, 0xb6, 0xc7, 0xd8}
			o, r, n := want(row)
			for k := range n {
				readShort(t, row[:k])
			}
			for k := n; k <= len(row); k++ {
				if got, gotReg, gotN, err := Read(row[:k:k]); got != o || gotReg != r || gotN != n || err != api.OK {
					t.Fatalf("P9.1: Read(% x): %+v, %d, %d, %d, not %+v, %d, %d", row[:k], got, gotReg, gotN, err, o, r, n)
				}
			}
		}
	}
}

func TestReadOfOneByteTooFew(t *testing.T) {
	for _, row := range [][]byte{
		{}, {0x04}, {0x3c}, {0x44}, {0x84}, {0x05}, {0x05, 1, 2, 3}, {0x40}, {0x45}, {0x80, 1, 2, 3}, {0x85, 1, 2, 3}, {0x87},
		{0x44, 0x24}, {0x44, 0x25}, {0x84, 0x24, 1, 2, 3}, {0x84, 0x25, 1, 2, 3}, {0x04, 0x25, 1, 2, 3}, {0x04, 0x05, 1, 2, 3}, {0x04, 0xfd, 1, 2, 3}, {0x04, 0x25},
	} {
		readShort(t, row)
	}
}

// The room behind a slice isn't read, and no byte is changed.
func TestReadLeavesItsBytes(t *testing.T) {
	for first := range 256 {
		row := []byte{byte(first), 0x25, 3, 4, 5, 6, 7, 8}
		before := slices.Clone(row)
		_, _, n := want(row)
		for k := range len(row) {
			if _, _, _, err := Read(row[:k]); (err == api.OK) != (k >= n) {
				t.Fatalf("P9.1: Read(% x): %d, with % x in the room behind", row[:k], err, row[k:])
			}
		}
		if !bytes.Equal(row, before) {
			t.Fatalf("P9.1: Read changed % x to % x", before, row)
		}
	}
}

func TestRightOfAllThatAre(t *testing.T) {
	for _, disp := range operands.Disps() {
		for _, o := range operands.Rights(disp) {
			if !Right(o) {
				t.Fatalf("P9.1: Right(%+v): false", o)
			}
		}
	}
}

// All that isn't listed as Right isn't, about the ends of each field.
func TestRightAgainstTheList(t *testing.T) {
	listed := map[api.Operand]bool{}
	for _, disp := range []uint32{0, 0x80000000} {
		for _, o := range operands.Rights(disp) {
			listed[o] = true
		}
	}
	for kind := -1; kind <= api.Dbl+1; kind++ {
		for r := -1; r <= 8; r++ {
			for base := -3; base <= 9; base++ {
				for index := -3; index <= 9; index++ {
					for scale := -2; scale <= 17; scale++ {
						o := api.Operand{Kind: kind, Reg: r, Base: base, Index: index, Scale: scale, Disp: uint32(scale&1) << 31}
						if Right(o) != listed[o] {
							t.Fatalf("P9.1: Right(%+v): %v", o, !listed[o])
						}
					}
				}
			}
		}
	}
}

func TestRightByHand(t *testing.T) {
	for _, x := range []struct {
		told string
		o    api.Operand
		want bool
	}{
		{"a base", mem(0, -1, 1, 0), true}, {"the last base", mem(7, -1, 1, 0), true}, {"no base", mem(-1, -1, 1, 0), true}, {"ESP", mem(4, -1, 1, 0), true},
		{"a base of -2", mem(-2, -1, 1, 0), false}, {"a base of 8", mem(8, -1, 1, 0), false},
		{"the last index", mem(0, 7, 8, 0), true}, {"no base, an index", mem(-1, 0, 1, 0), true}, {"an index of 3", mem(0, 3, 1, 0), true}, {"an index of 5", mem(0, 5, 1, 0), true},
		{"an index of -2", mem(0, -2, 1, 0), false}, {"an index of 8", mem(0, 8, 1, 0), false}, {"an index of ESP", mem(0, 4, 1, 0), false}, {"an index of ESP, scaled", mem(0, 4, 2, 0), false},
		{"a scale of 0", mem(0, 1, 0, 0), false}, {"a scale of 3", mem(0, 1, 3, 0), false}, {"a scale of 5", mem(0, 1, 5, 0), false}, {"a scale of 7", mem(0, 1, 7, 0), false}, {"a scale of 9", mem(0, 1, 9, 0), false},
		{"a scale of 16", mem(0, 1, 16, 0), false}, {"a scale of -1", mem(0, 1, -1, 0), false},
		{"a scale of 0 without an index", mem(0, -1, 0, 0), false}, {"a scale of 2 without an index", mem(0, -1, 2, 0), false}, {"a scale of 8 without an index", mem(-1, -1, 8, 0), false},
		{"noughts", api.Operand{}, false}, {"a register", reg(0), false}, {"a register of memory", api.Operand{Kind: api.Mem, Reg: 1, Base: 0, Index: -1, Scale: 1}, false},
		{"a kind of -1", api.Operand{Kind: -1, Base: 0, Index: -1, Scale: 1}, false}, {"an immediate", api.Operand{Kind: api.Imm, Base: -1, Index: -1, Scale: 1, Disp: 5}, false},
	} {
		if got := Right(x.o); got != x.want {
			t.Errorf("P9.1: %s: Right(%+v): %v", x.told, x.o, got)
		}
	}
}

// Numbers that would pass for right ones by some of their bits, in each field on its own.
func TestWrongFields(t *testing.T) {
	for _, o := range append(operands.Rights(5), reg(0), reg(3), reg(7)) {
		for i := range operands.Ints(&o) {
			for _, v := range operands.Like(*operands.Ints(&o)[i]) {
				wrong := o
				*operands.Ints(&wrong)[i] = v
				if Right(wrong) {
					t.Fatalf("P9.1: Right(%+v): true", wrong)
				}
				putNone(t, 2, wrong)
			}
		}
	}
}

func TestPutByHand(t *testing.T) {
	for _, x := range []struct {
		r   int
		o   api.Operand
		row []byte
	}{
		{0, mem(api.ESP, -1, 1, 0), []byte{0x04, 0x24}},
		{3, mem(api.ESP, -1, 1, 8), []byte{0x5c, 0x24, 0x08}},
		{0, mem(api.ESP, -1, 1, 0x80), []byte{0x84, 0x24, 0x80, 0, 0, 0}},
		{0, mem(api.EAX, -1, 1, 0), []byte{0x00}},
		{7, mem(api.EDI, -1, 1, 0), []byte{0x3f}},
		{1, mem(api.EBP, -1, 1, 0), []byte{0x4d, 0x00}},
		{1, mem(api.EBP, -1, 1, 0x7f), []byte{0x4d, 0x7f}},
		{1, mem(api.EBP, -1, 1, 0x80), []byte{0x8d, 0x80, 0, 0, 0}},
		{1, mem(api.EBP, -1, 1, 0xffffff80), []byte{0x4d, 0x80}},
		{1, mem(api.EBP, -1, 1, 0xffffff7f), []byte{0x8d, 0x7f, 0xff, 0xff, 0xff}},
		{6, mem(api.EBX, -1, 1, 0xffffffff), []byte{0x73, 0xff}},
		{6, mem(api.EBX, -1, 1, 0x80000000), []byte{0xb3, 0, 0, 0, 0x80}},
		{6, mem(api.EBX, -1, 1, 0xff), []byte{0xb3, 0xff, 0, 0, 0}},
		{2, mem(-1, -1, 1, 0), []byte{0x15, 0, 0, 0, 0}},
		{2, mem(-1, -1, 1, 0x12345678), []byte{0x15, 0x78, 0x56, 0x34, 0x12}},
		{2, mem(-1, -1, 1, 0xffffffff), []byte{0x15, 0xff, 0xff, 0xff, 0xff}},
		{0, mem(-1, api.EAX, 1, 0), []byte{0x04, 0x05, 0, 0, 0, 0}},
		{0, mem(-1, api.EDI, 8, 1), []byte{0x04, 0xfd, 1, 0, 0, 0}},
		{0, mem(-1, api.EBP, 2, 0x7f), []byte{0x04, 0x6d, 0x7f, 0, 0, 0}},
		{0, mem(api.EAX, api.EBX, 4, 8), []byte{0x44, 0x98, 0x08}},
		{4, mem(api.EBP, api.ECX, 1, 0), []byte{0x64, 0x0d, 0x00}},
		{4, mem(api.EBP, api.ECX, 2, 0x180), []byte{0xa4, 0x4d, 0x80, 0x01, 0, 0}},
		{5, mem(api.ESP, api.ESI, 2, 0), []byte{0x2c, 0x74}},
		{5, mem(api.ECX, api.EAX, 1, 0), []byte{0x2c, 0x01}},
		{0, reg(api.EAX), []byte{0xc0}},
		{1, reg(api.ESP), []byte{0xcc}},
		{2, reg(api.EBP), []byte{0xd5}},
		{7, reg(api.EDI), []byte{0xff}},
	} {
		put(t, x.r, x.o, x.row)
	}
}

// told: an operand, and the reg beside it.
type told struct {
	r int
	o api.Operand
}

// spellings answers, of all rows in which a number may be added, the shortest and least that tells each operand.
func spellings(disp uint32) map[told][]byte {
	best := map[told][]byte{}
	four := []byte{byte(disp), byte(disp >> 8), byte(disp >> 16), byte(disp >> 24)}
	for first := range 256 {
		for second := range 256 {
			row := []byte{byte(first)}
			if first%8 == 4 && first < 192 {
				row = append(row, byte(second))
			} else if second > 0 {
				break
			}
			row = append(row, four[:size(byte(first), byte(second))-len(row)]...)
			o, r, _ := want(append(slices.Clone(row), 0))
			old := best[told{r, o}]
			if old == nil || len(row) < len(old) || len(row) == len(old) && bytes.Compare(row, old) < 0 {
				best[told{r, o}] = row
			}
		}
	}
	return best
}

// Each reg and each operand that is Right: of all bytes that tell it, the shortest, of these the least.
func TestPutAgainstAllBytes(t *testing.T) {
	for _, disp := range operands.Disps() {
		best := spellings(disp)
		for r := range 8 {
			for _, o := range append(operands.Rights(disp), reg(0), reg(1), reg(2), reg(3), reg(4), reg(5), reg(6), reg(7)) {
				row := best[told{r, o}]
				if row == nil {
					t.Fatalf("P9.3: no bytes tell %+v, %d", o, r)
				}
				put(t, r, o, row)
			}
		}
	}
}

// Read of what Put answers is what Put was told, with no byte over and none too few.
func TestReadOfPut(t *testing.T) {
	picks := rand.New(rand.NewSource(9))
	all := operands.Disps()
	for range 200 {
		all = append(all, picks.Uint32(), uint32(picks.Intn(512)-256))
	}
	for _, disp := range all {
		for _, o := range append(operands.Rights(disp), reg(int(disp%8))) {
			r := picks.Intn(8)
			row, err := Put(r, o)
			got, gotReg, n, gotErr := Read(row)
			if err != api.OK || got != o || gotReg != r || n != len(row) || gotErr != api.OK {
				t.Fatalf("P9.3: Put(%d, %+v): % x, %d, which Read reads as %+v, %d, %d, %d", r, o, row, err, got, gotReg, n, gotErr)
			}
			if len(row) > 1 {
				readShort(t, row[:len(row)-1])
			}
		}
	}
}

// What Read tells can be put, in no more bytes, which tell the same.
func TestPutOfRead(t *testing.T) {
	picks := rand.New(rand.NewSource(90))
	for range 200000 {
		row := make([]byte, 6)
		picks.Read(row)
		o, r, n, err := Read(row)
		if err != api.OK || Right(o) != (row[0] < 0xc0) {
			t.Fatalf("P9.3: Read(% x): %+v, %d; Right: %v", row, o, err, Right(o))
		}
		short, err := Put(r, o)
		again, againReg, _, _ := Read(short)
		if err != api.OK || again != o || againReg != r || len(short) > n || len(short) == n && bytes.Compare(short, row[:n]) > 0 {
			t.Fatalf("P9.3: Put(%d, %+v), which % x tell: % x, %d", r, o, row, short, err)
		}
	}
}

func TestPutOfWrongRegs(t *testing.T) {
	wrong := []int{-1, -2, -8, 8, 9, 15, math.MinInt, math.MaxInt}
	for r := range 8 {
		wrong = append(wrong, operands.Like(r)...)
	}
	for _, r := range wrong {
		putNone(t, r, mem(0, -1, 1, 0))
		putNone(t, r, mem(-1, 7, 8, 0x80))
		putNone(t, r, reg(3))
	}
}

func TestPutOfWrongRegisters(t *testing.T) {
	for r := range 8 {
		for _, o := range []api.Operand{
			reg(-1), reg(-2), reg(8), reg(9), reg(math.MinInt), reg(math.MaxInt), {}, {Kind: api.Reg}, {Kind: api.Reg, Reg: r},
			{Kind: api.Reg, Reg: r, Base: 0, Index: -1, Scale: 1}, {Kind: api.Reg, Reg: r, Base: r, Index: -1, Scale: 1}, {Kind: api.Reg, Reg: r, Base: -2, Index: -1, Scale: 1},
			{Kind: api.Reg, Reg: r, Base: -1, Index: 0, Scale: 1}, {Kind: api.Reg, Reg: r, Base: -1, Index: 4, Scale: 1}, {Kind: api.Reg, Reg: r, Base: -1, Index: -2, Scale: 1},
			{Kind: api.Reg, Reg: r, Base: -1, Index: -1, Scale: 0}, {Kind: api.Reg, Reg: r, Base: -1, Index: -1, Scale: 2}, {Kind: api.Reg, Reg: r, Base: -1, Index: -1, Scale: -1},
			{Kind: api.Reg, Reg: r, Base: -1, Index: -1, Scale: 1, Disp: 1}, {Kind: api.Reg, Reg: r, Base: -1, Index: -1, Scale: 1, Disp: 0x80000000}, {Kind: api.Reg, Reg: r, Base: -1, Index: -1, Scale: 1, Disp: 0xffffffff},
			{Kind: api.None, Reg: r, Base: -1, Index: -1, Scale: 1}, {Kind: api.Low, Reg: r, Base: -1, Index: -1, Scale: 1}, {Kind: api.Imm, Reg: r, Base: -1, Index: -1, Scale: 1}, {Kind: api.Dbl, Reg: r, Base: -1, Index: -1, Scale: 1}, {Kind: 6, Reg: r, Base: -1, Index: -1, Scale: 1}, {Kind: -1, Reg: r, Base: -1, Index: -1, Scale: 1},
		} {
			for at := range 8 {
				putNone(t, at, o)
			}
		}
	}
}

// About the ends of each field Put takes just what is Right, and the registers.
func TestPutTakesWhatIsRight(t *testing.T) {
	registers := map[api.Operand]bool{}
	for r := range 8 {
		registers[reg(r)] = true
	}
	for kind := -1; kind <= api.Dbl+1; kind++ {
		for _, r := range []int{-1, 0, 1, 7, 8} {
			for base := -2; base <= 8; base++ {
				for index := -2; index <= 8; index++ {
					for _, scale := range []int{-1, 0, 1, 2, 3, 4, 5, 7, 8, 9, 16} {
						o := api.Operand{Kind: kind, Reg: r, Base: base, Index: index, Scale: scale}
						if _, err := Put(6, o); (err == api.OK) != (Right(o) || registers[o]) {
							t.Fatalf("P9.2: Put(6, %+v): %d", o, err)
						}
						putNone(t, -1, o)
						putNone(t, 8, o)
					}
				}
			}
		}
	}
}

// Each answer is memory of its own.
func TestPutAnswersNewMemory(t *testing.T) {
	for _, o := range append(operands.Rights(0x81), reg(6)) {
		row, _ := Put(5, o)
		before := slices.Clone(row)
		other, _ := Put(5, o)
		clear(other[:cap(other)])
		if again, _ := Put(5, o); !bytes.Equal(row, before) || !bytes.Equal(again, before) {
			t.Fatalf("P9.2: Put(5, %+v): % x, then % x, not % x", o, row, again, before)
		}
	}
}
