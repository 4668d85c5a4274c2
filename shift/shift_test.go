package shift

import (
	"math"
	"math/bits"
	"testing"

	"saltern/api"
	"saltern/marks"
)

// ops: the five, with what moves a bit at a time for each of them.
var ops = []struct {
	op   int
	name string
	one  func(bitRow) (bitRow, bool)
}{
	{api.Rol, "Rol", rolOne}, {api.Ror, "Ror", rorOne}, {api.Shl, "Shl", shlOne}, {api.Shr, "Shr", shrOne}, {api.Sar, "Sar", sarOne},
}

// bitRow: a number as a row of bits, the lowest first; the model moves them by one place at a time.
type bitRow [32]bool

func row(v uint32) (b bitRow) {
	for i := range b {
		b[i] = v%2 == 1
		v /= 2
	}
	return b
}

func (b bitRow) number() (v uint32) {
	for i := 31; i >= 0; i-- {
		v *= 2
		if b[i] {
			v++
		}
	}
	return v
}

// up answers b a place higher, with in at the lowest place, and what went out.
func up(b bitRow, in bool) (bitRow, bool) {
	var r bitRow
	copy(r[1:], b[:31])
	r[0] = in
	return r, b[31]
}

// down answers b a place lower, with in at the highest place, and what went out.
func down(b bitRow, in bool) (bitRow, bool) {
	var r bitRow
	copy(r[:31], b[1:])
	r[31] = in
	return r, b[0]
}

func rolOne(b bitRow) (bitRow, bool) { return up(b, b[31]) }
func rorOne(b bitRow) (bitRow, bool) { return down(b, b[0]) }
func shlOne(b bitRow) (bitRow, bool) { return up(b, false) }
func shrOne(b bitRow) (bitRow, bool) { return down(b, false) }
func sarOne(b bitRow) (bitRow, bool) { return down(b, b[31]) }

// model reckons Do by a bit at a time. What goes round comes in at the lowest or the highest place, so that the last bit that went out is Rol's and Ror's C, too.
func model(op int, one func(bitRow) (bitRow, bool), f api.Flags, v, n uint32) (uint32, api.Flags) {
	if n%32 == 0 {
		return v, f
	}
	b := row(v)
	for range n % 32 {
		b, f.C = one(b)
	}
	r := b.number()
	switch op {
	case api.Shl, api.Rol:
		f.O = b[31] != f.C
	case api.Shr:
		f.O = v >= 0x80000000
	case api.Sar:
		f.O = false
	case api.Ror:
		f.O = b[31] != b[30]
	}
	if op != api.Rol && op != api.Ror {
		f.Z, f.S, f.P = r == 0, r >= 0x80000000, bits.OnesCount8(uint8(r))%2 == 0
	}
	return r, f
}

// numbers: ones with the highest or the lowest bit set, both, none; each single bit; rows of bits that are unlike at all places.
func numbers() []uint32 {
	all := []uint32{
		0, 3, 0x55, 0x7f, 0x81, 0xff, 0x100, 0x8001, 0xffff, 0x10001, 0x12345678, 0x40000001, 0x55555555,
		0x7ffffffe, 0x7fffffff, 0x80000001, 0x80000003, 0xaaaaaaaa, 0xbfffffff, 0xc0000000, 0xc0000001, 0xdeadbeef,
		0xfffffffe, 0xffffffff,
	}
	for i := range 32 {
		all = append(all, uint32(1)<<i, ^(uint32(1) << i))
	}
	return all
}

// counts: each one that n's lowest five bits have, and ones whose upper bits don't count.
func counts() []uint32 {
	all := []uint32{32, 33, 34, 47, 62, 63, 64, 65, 95, 96, 97, 128, 255, 256, 257, 0x10000, 0x1001f, 0x7fffffff, 0x80000000, 0x80000001, 0xffffffe0, 0xffffffe1, 0xffffffff}
	for n := range uint32(32) {
		all = append(all, n)
	}
	return all
}

// others: ops that are none of the five, ones that no instruction has among them.
func others() []int {
	all := []int{math.MinInt, math.MinInt32, -1000, math.MaxInt32, math.MaxInt}
	for op := -40; op < api.Ops+40; op++ {
		if op < api.Rol || op > api.Sar {
			all = append(all, op)
		}
	}
	// Numbers that would pass for an op by their lowest bits alone.
	for _, x := range ops {
		all = append(all, -x.op, x.op+0x100, x.op-0x100, x.op|1<<16)
	}
	return all
}

func TestKnown(t *testing.T) {
	for _, x := range ops {
		if !Known(x.op) {
			t.Errorf("P2.1: Known(%s): false", x.name)
		}
	}
	for _, op := range others() {
		if Known(op) {
			t.Errorf("P2.1: Known(%d): true", op)
		}
	}
}

func TestDoByOneBitAtATime(t *testing.T) {
	before := marks.All()
	for _, x := range ops {
		for _, v := range numbers() {
			for _, n := range counts() {
				for _, f := range before {
					want, wf := model(x.op, x.one, f, v, n)
					if r, g := Do(x.op, f, v, n); r != want || g != wf {
						t.Fatalf("P2.1, P2.2: Do(%s, %+v, %#x, %d): %#x %+v, not %#x %+v", x.name, f, v, n, r, g, want, wf)
					}
				}
			}
		}
	}
}

func TestDoByHand(t *testing.T) {
	for i, x := range []struct {
		op     int
		before string
		v, n   uint32
		want   uint32
		after  string
	}{
		{api.Shl, "", 1, 31, 0x80000000, "SOP"},
		{api.Shl, "", 1, 1, 2, ""},
		{api.Shl, "CZSOPD", 1, 1, 2, "D"},
		{api.Shl, "", 0x80000000, 1, 0, "CZPO"},
		{api.Shl, "D", 0xc0000000, 1, 0x80000000, "CSPD"},
		{api.Shl, "", 0x40000000, 1, 0x80000000, "SOP"},
		{api.Shl, "", 3, 31, 0x80000000, "CSP"},
		{api.Shl, "", 2, 31, 0, "CZPO"},
		{api.Shl, "", 0, 5, 0, "ZP"},
		{api.Shr, "", 1, 1, 0, "CZP"},
		{api.Shr, "", 0x80000000, 31, 1, "O"},
		{api.Shr, "D", 0x80000001, 1, 0x40000000, "CPOD"},
		{api.Shr, "C", 0xc0000000, 31, 1, "CO"},
		{api.Shr, "S", 0x7fffffff, 31, 0, "CZP"},
		{api.Shr, "C", 0x10, 3, 2, ""},
		{api.Sar, "O", 0x80000000, 31, 0xffffffff, "SP"},
		{api.Sar, "", 0xffffffff, 1, 0xffffffff, "CSP"},
		{api.Sar, "D", 0x80000001, 1, 0xc0000000, "CSPD"},
		{api.Sar, "CO", 0x40000000, 31, 0, "CZP"},
		{api.Sar, "OS", 0x40000000, 30, 1, ""},
		{api.Sar, "", 0x3fffffff, 30, 0, "CZP"},
		{api.Rol, "", 0x80000000, 1, 1, "CO"},
		{api.Rol, "ZSPD", 0x80000001, 1, 3, "CZSPOD"},
		{api.Rol, "", 0x40000000, 1, 0x80000000, "O"},
		{api.Rol, "C", 1, 31, 0x80000000, "O"},
		{api.Rol, "O", 0xc0000000, 1, 0x80000001, "C"},
		{api.Rol, "CO", 0, 7, 0, ""},
		{api.Rol, "O", 0xffffffff, 16, 0xffffffff, "C"},
		{api.Ror, "", 1, 1, 0x80000000, "CO"},
		{api.Ror, "ZSPD", 3, 1, 0x80000001, "CZSPOD"},
		{api.Ror, "O", 3, 2, 0xc0000000, "C"},
		{api.Ror, "C", 2, 2, 0x80000000, "CO"},
		{api.Ror, "CS", 0x80000000, 1, 0x40000000, "OS"},
		{api.Ror, "CO", 0x80000000, 2, 0x20000000, ""},
		{api.Ror, "", 0x80000000, 31, 1, ""},
		{api.Ror, "", 0x12345678, 8, 0x78123456, "O"},
		// Of n the lowest five bits alone count.
		{api.Shl, "", 1, 33, 2, ""},
		{api.Shl, "", 1, 63, 0x80000000, "SOP"},
		{api.Shr, "", 0x80000000, 0xffffffff, 1, "O"},
		{api.Sar, "", 0x80000000, 0x21, 0xc0000000, "SP"},
		{api.Rol, "", 0x80000000, 0x80000001, 1, "CO"},
		{api.Ror, "", 1, 97, 0x80000000, "CO"},
		{api.Shl, "CO", 0x80000001, 32, 0x80000001, "CO"},
		{api.Shr, "ZD", 0x80000001, 0, 0x80000001, "ZD"},
		{api.Sar, "O", 0x80000001, 64, 0x80000001, "O"},
		{api.Rol, "ZSP", 0x80000001, 0xffffffe0, 0x80000001, "ZSP"},
		{api.Ror, "O", 0x80000001, 0x80000000, 0x80000001, "O"},
		// Other ops do nothing.
		{api.Mov, "CZ", 0x80000001, 1, 0x80000001, "CZ"},
		{0, "OD", 5, 3, 5, "OD"},
		{-1, "", 5, 3, 5, ""},
	} {
		if r, g := Do(x.op, marks.Of(x.before), x.v, x.n); r != x.want || g != marks.Of(x.after) {
			t.Errorf("P2.1, P2.2: %d: %#x %+v, not %#x %s", i, r, g, x.want, x.after)
		}
	}
}

func TestCountOfNothing(t *testing.T) {
	for _, x := range ops {
		for _, v := range numbers() {
			for _, n := range []uint32{0, 32, 64, 1024, 0x80000000, 0xffffffe0} {
				for _, f := range marks.All() {
					if r, g := Do(x.op, f, v, n); r != v || g != f {
						t.Fatalf("P2.1: Do(%s, %+v, %#x, %d): %#x %+v", x.name, f, v, n, r, g)
					}
				}
			}
		}
	}
}

func TestOtherOps(t *testing.T) {
	for _, op := range others() {
		for _, v := range []uint32{0, 1, 0x80000000, 0x80000001, 0x12345678, 0xffffffff} {
			for _, n := range []uint32{0, 1, 5, 31, 32, 33, 0xffffffff} {
				for _, f := range marks.All() {
					if r, g := Do(op, f, v, n); r != v || g != f {
						t.Fatalf("P2.1: Do(%d, %+v, %#x, %d): %#x %+v", op, f, v, n, r, g)
					}
				}
			}
		}
	}
}

// What went out can be laid down again: of 32 moves by one, C by C, all of the number comes back, whatever is left of it; turned ones come back by themselves.
func TestWhatGoesOutIsTold(t *testing.T) {
	for _, v := range numbers() {
		for _, x := range ops {
			var told uint32
			r, f := v, api.Flags{}
			for i := range 32 {
				r, f = Do(x.op, f, r, 1)
				at := i
				if x.op == api.Shl || x.op == api.Rol {
					at = 31 - i
				}
				if f.C {
					told |= 1 << at
				}
			}
			if told != v {
				t.Errorf("P2.3: %s: %#x tells %#x", x.name, v, told)
			}
			left := map[int]uint32{api.Rol: v, api.Ror: v, api.Sar: uint32(-int64(v >> 31))}[x.op]
			if r != left {
				t.Errorf("P2.3: %s: of %#x %#x is left, not %#x", x.name, v, r, left)
			}
		}
	}
}
