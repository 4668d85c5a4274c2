package arith

import (
	"math"
	"math/bits"
	"testing"

	"saltern/api"
	"saltern/marks"
)

// sizes: each size that counts as one of 1, 2, 4 bytes for itself, and ones that are none of these, with the bits that they stand for.
var sizes = []struct {
	size int
	bits uint
}{
	{1, 8}, {2, 16}, {4, 32},
	{0, 8}, {-1, 8}, {-4, 8}, {math.MinInt, 8},
	{3, 16},
	{5, 32}, {8, 32}, {99, 32}, {math.MaxInt, 32},
}

// edges: numbers about the ends of each size, with bits behind the smaller sizes, too.
var edges = []uint32{
	0, 1, 2, 3, 5, 0x10, 0x55, 0x7e, 0x7f, 0x80, 0x81, 0xaa, 0xfe, 0xff,
	0x100, 0x101, 0x17f, 0x180, 0x1ff, 0x5678,
	0x7ffe, 0x7fff, 0x8000, 0x8001, 0xff00, 0xff7f, 0xff80, 0xfffe, 0xffff,
	0x10000, 0x10001, 0x17fff, 0x18000, 0x1ffff, 0x12345678, 0x55555555,
	0x7ffffffe, 0x7fffffff, 0x80000000, 0x80000001, 0xaaaaaaaa, 0xdeadbeef,
	0xffff0000, 0xffff8000, 0xffffff7f, 0xffffff80, 0xfffffffe, 0xffffffff,
}

// number answers v's lowest n bits as a whole number without and with a sign, reckoned by remainders.
func number(v uint32, n uint) (int64, int64) {
	modulus := int64(1) << n
	plain := int64(v) % modulus
	if plain >= modulus/2 {
		return plain, plain - modulus
	}
	return plain, plain
}

// wrap answers a whole number as n bits have it.
func wrap(whole int64, n uint) uint32 {
	modulus := int64(1) << n
	return uint32((whole%modulus + modulus) % modulus)
}

// tells answers Z, S, P of a result of n bits, and C, O as they are handed in.
func tells(v uint32, n uint, c, o bool) api.Flags {
	_, signed := number(v, n)
	return api.Flags{C: c, O: o, Z: v == 0, S: signed < 0, P: bits.OnesCount8(uint8(v))%2 == 0}
}

// fits: do n bits have that number, with a sign?
func fits(whole int64, n uint) bool {
	half := int64(1) << (n - 1)
	return whole >= -half && whole < half
}

func modelAdd(a, b uint32, n uint, carry int64) (uint32, api.Flags) {
	pa, sa := number(a, n)
	pb, sb := number(b, n)
	v := wrap(pa+pb+carry, n)
	return v, tells(v, n, pa+pb+carry >= int64(1)<<n, !fits(sa+sb+carry, n))
}

func modelSub(a, b uint32, n uint, borrow int64) (uint32, api.Flags) {
	pa, sa := number(a, n)
	pb, sb := number(b, n)
	v := wrap(pa-pb-borrow, n)
	return v, tells(v, n, pa-pb-borrow < 0, !fits(sa-sb-borrow, n))
}

// checkSums holds Add and Sub of a, b, with and without a carry, against the model.
func checkSums(t *testing.T, a, b uint32, size int, n uint) {
	t.Helper()
	for carry := range int64(2) {
		want, wf := modelAdd(a, b, n, carry)
		if v, f := Add(a, b, size, carry == 1); v != want || f != wf {
			t.Fatalf("P1.2: Add(%#x, %#x, %d, %d): %#x %+v, not %#x %+v", a, b, size, carry, v, f, want, wf)
		}
		want, wf = modelSub(a, b, n, carry)
		if v, f := Sub(a, b, size, carry == 1); v != want || f != wf {
			t.Fatalf("P1.2: Sub(%#x, %#x, %d, %d): %#x %+v, not %#x %+v", a, b, size, carry, v, f, want, wf)
		}
	}
}

func TestCut(t *testing.T) {
	for _, s := range sizes {
		for _, v := range edges {
			plain, _ := number(v, s.bits)
			if got := Cut(v, s.size); got != uint32(plain) {
				t.Errorf("P1.1: Cut(%#x, %d): %#x, not %#x", v, s.size, got, plain)
			}
		}
	}
	for i, x := range []struct {
		v    uint32
		size int
		want uint32
	}{
		{0x12345678, 1, 0x78}, {0x12345678, 2, 0x5678}, {0x12345678, 4, 0x12345678},
		{0x12345678, 0, 0x78}, {0x12345678, -7, 0x78}, {0x12345678, 3, 0x5678}, {0x12345678, 5, 0x12345678},
		{0x100, 1, 0}, {0x10000, 2, 0}, {0xffffffff, 4, 0xffffffff},
	} {
		if got := Cut(x.v, x.size); got != x.want {
			t.Errorf("P1.1: Cut %d: %#x, not %#x", i, got, x.want)
		}
	}
}

func TestSigned(t *testing.T) {
	for _, s := range sizes {
		for _, v := range edges {
			_, signed := number(v, s.bits)
			if got := Signed(v, s.size); int64(got) != signed {
				t.Errorf("P1.1: Signed(%#x, %d): %d, not %d", v, s.size, got, signed)
			}
		}
	}
	for i, x := range []struct {
		v    uint32
		size int
		want int32
	}{
		{0x7f, 1, 127}, {0x80, 1, -128}, {0xff, 1, -1}, {0xff, 2, 255}, {0x180, 1, -128}, {0x80, 0, -128},
		{0x7fff, 2, 32767}, {0x8000, 2, -32768}, {0x8000, 3, -32768}, {0x8000, 4, 32768}, {0xff7fff, 3, 32767},
		{0x7fffffff, 4, math.MaxInt32}, {0x80000000, 4, math.MinInt32}, {0xffffffff, 99, -1},
	} {
		if got := Signed(x.v, x.size); got != x.want {
			t.Errorf("P1.1: Signed %d: %d, not %d", i, got, x.want)
		}
	}
}

func TestParity(t *testing.T) {
	for v := range uint32(256) {
		want := bits.OnesCount32(v)%2 == 0
		for _, behind := range []uint32{0, 0x100, 0x8000, 0x10000, 0x80000000, 0xffffff00} {
			if got := Parity(v | behind); got != want {
				t.Errorf("P1.1: Parity(%#x): %v", v|behind, got)
			}
		}
	}
}

func TestSumsOfOneByte(t *testing.T) {
	for a := range uint32(256) {
		for b := range uint32(256) {
			checkSums(t, a, b, 1, 8)
		}
	}
}

func TestSumsAtEdges(t *testing.T) {
	for _, s := range sizes {
		for _, a := range edges {
			for _, b := range edges {
				checkSums(t, a, b, s.size, s.bits)
			}
		}
	}
}

func TestSumsByHand(t *testing.T) {
	for i, x := range []struct {
		a, b  uint32
		size  int
		carry bool
		add   uint32
		f     string
		sub   uint32
		g     string
	}{
		{255, 1, 1, false, 0, "CZP", 254, "S"},
		{0, 0, 1, false, 0, "ZP", 0, "ZP"},
		{0, 0, 1, true, 1, "", 255, "CSP"},
		{0x7f, 0, 1, true, 0x80, "SO", 0x7e, "P"},
		{0x80, 0, 1, true, 0x81, "SP", 0x7f, "O"},
		{0x80, 0xff, 1, false, 0x7f, "CO", 0x81, "CSP"},
		{0xff, 0xff, 2, false, 0x1fe, "", 0, "ZP"},
		{0xffff, 0xffff, 2, true, 0xffff, "CSP", 0xffff, "CSP"},
		{0x8000, 0x8000, 3, false, 0, "CZPO", 0, "ZP"},
		{0x7fffffff, 0xffffffff, 4, false, 0x7ffffffe, "C", 0x80000000, "CSPO"},
		{0xffffffff, 0xffffffff, 4, true, 0xffffffff, "CSP", 0xffffffff, "CSP"},
		{0x80000000, 1, 4, false, 0x80000001, "S", 0x7fffffff, "PO"},
		{0x101, 0xff, -1, false, 0, "CZP", 2, "C"},
	} {
		v, f := Add(x.a, x.b, x.size, x.carry)
		if v != x.add || f != marks.Of(x.f) {
			t.Errorf("P1.2: Add %d: %#x %+v", i, v, f)
		}
		v, f = Sub(x.a, x.b, x.size, x.carry)
		if v != x.sub || f != marks.Of(x.g) {
			t.Errorf("P1.2: Sub %d: %#x %+v", i, v, f)
		}
	}
}

func TestLogic(t *testing.T) {
	for _, s := range sizes {
		for _, v := range edges {
			plain, _ := number(v, s.bits)
			want := tells(uint32(plain), s.bits, false, false)
			if got, f := Logic(v, s.size); got != uint32(plain) || f != want {
				t.Errorf("P1.2: Logic(%#x, %d): %#x %+v, not %#x %+v", v, s.size, got, f, plain, want)
			}
		}
	}
	for i, x := range []struct {
		v    uint32
		size int
		want uint32
		f    string
	}{
		{0, 1, 0, "ZP"}, {0x100, 1, 0, "ZP"}, {0x80, 1, 0x80, "S"}, {0x80, 2, 0x80, ""}, {0x8003, 3, 0x8003, "SP"},
		{0x80000000, 4, 0x80000000, "SP"}, {0x80000000, 2, 0, "ZP"}, {0x1ff, 0, 0xff, "SP"}, {0x7fffffff, 77, 0x7fffffff, "P"},
	} {
		if v, f := Logic(x.v, x.size); v != x.want || f != marks.Of(x.f) {
			t.Errorf("P1.2: Logic %d: %#x %+v", i, v, f)
		}
	}
}

func TestStep(t *testing.T) {
	ups := []int{1, 2, 5, math.MaxInt}
	downs := []int{-1, 0, -2, -5, math.MinInt}
	for _, before := range []string{"", "C", "D", "CD", "PZSO", "CPZSOD"} {
		f := marks.Of(before)
		for _, s := range sizes {
			for _, v := range edges {
				up, uf := modelAdd(v, 1, s.bits, 0)
				down, df := modelSub(v, 1, s.bits, 0)
				uf.C, uf.D, df.C, df.D = f.C, f.D, f.C, f.D
				for _, by := range ups {
					checkStep(t, f, v, s.size, by, up, uf)
				}
				for _, by := range downs {
					checkStep(t, f, v, s.size, by, down, df)
				}
			}
		}
	}
}

func TestStepByHand(t *testing.T) {
	for _, x := range []struct {
		before string
		v      uint32
		size   int
		by     int
		want   uint32
		after  string
	}{
		{"", 255, 1, 1, 0, "ZP"}, {"C", 255, 1, 1, 0, "CZP"}, {"D", 0, 1, -1, 255, "DSP"},
		{"", 0x7f, 1, 1, 0x80, "SO"}, {"", 0x80, 1, -1, 0x7f, "O"}, {"CZSO", 0x80, 2, -1, 0x7f, "C"},
		{"", 0x7fff, 3, 9, 0x8000, "SPO"}, {"", 0x8000, 2, 0, 0x7fff, "PO"},
		{"C", 0xffffffff, 4, 1, 0, "CZP"}, {"", 0, 8, -9, 0xffffffff, "SP"}, {"", 0x1ff, -3, 2, 0, "ZP"},
	} {
		checkStep(t, marks.Of(x.before), x.v, x.size, x.by, x.want, marks.Of(x.after))
	}
}

func checkStep(t *testing.T, f api.Flags, v uint32, size, by int, want uint32, wf api.Flags) {
	t.Helper()
	if got, g := Step(f, v, size, by); got != want || g != wf {
		t.Errorf("P1.3: Step(%+v, %#x, %d, %d): %#x %+v, not %#x %+v", f, v, size, by, got, g, want, wf)
	}
}

// What a sum was can be told from what it left and its flags: C is what is behind it, S and O together the sign of the whole sum.
func TestFlagsTellTheSum(t *testing.T) {
	for _, s := range sizes {
		for _, a := range edges {
			for _, b := range edges {
				pa, sa := number(a, s.bits)
				pb, sb := number(b, s.bits)
				v, f := Add(a, b, s.size, false)
				whole := int64(v)
				if f.C {
					whole += int64(1) << s.bits
				}
				if whole != pa+pb || (f.S != f.O) != (sa+sb < 0) {
					t.Errorf("P1.4: Add(%#x, %#x, %d): %#x %+v", a, b, s.size, v, f)
				}
				v, f = Sub(a, b, s.size, false)
				if f.C != (pa < pb) || f.Z != (pa == pb) || (f.S != f.O) != (sa < sb) {
					t.Errorf("P1.4: Sub(%#x, %#x, %d): %#x %+v", a, b, s.size, v, f)
				}
			}
		}
	}
}
