package muldiv

import (
	"math/big"
	"testing"

	"saltern/api"
	"saltern/marks"
)

// numbers: ones about the ends of 8, 16, 31 and 32 bits, with signs and without, and about the roots of these, where a product begins not to fit.
func numbers() []uint32 {
	all := []uint32{
		0, 1, 2, 3, 5, 7, 10, 0x7f, 0x80, 0xff, 0x100, 0x7fff, 0x8000, 0x8001, 46340, 46341, 0xb505, 0xfffe, 0xffff, 0x10000, 0x10001,
		0x12345678, 0x33333333, 0x3fffffff, 0x40000000, 0x40000001, 0x55555555, 0x55555556, 0x7ffffffd, 0x7ffffffe, 0x7fffffff,
		0x80000000, 0x80000001, 0x80000002, 0xaaaaaaaa, 0xaaaaaaab, 0xbfffffff, 0xc0000000, 0xc0000001, 0xdeadbeef,
		0xffff0000, 0xffff4afb, 0xffff4afc, 0xffff7fff, 0xffff8000, 0xffff8001, 0xffffff00, 0xffffff80,
		0xfffffff6, 0xfffffff9, 0xfffffffb, 0xfffffffd, 0xfffffffe, 0xffffffff,
	}
	for i := range 32 {
		all = append(all, uint32(1)<<i)
	}
	return all
}

// mixed: many numbers without an order, the same ones at each run; some of them are short.
func mixed(count int) []uint32 {
	var all []uint32
	v := uint64(0x9e3779b97f4a7c15)
	for range count {
		v ^= v << 13
		v ^= v >> 7
		v ^= v << 17
		all = append(all, uint32(v>>32)>>(v%32))
	}
	return all
}

// power: 2^n as a whole number.
func power(n uint) *big.Int {
	return new(big.Int).Lsh(big.NewInt(1), n)
}

// plain: v as a whole number without a sign.
func plain(v uint32) *big.Int {
	return new(big.Int).SetUint64(uint64(v))
}

// withSign: a whole number below 2^n as n bits have it in two's complement.
func withSign(v *big.Int, n uint) *big.Int {
	if v.Cmp(power(n-1)) < 0 {
		return v
	}
	return new(big.Int).Sub(v, power(n))
}

// both: hi 2^32 + lo.
func both(hi, lo uint32) *big.Int {
	return new(big.Int).Add(new(big.Int).Mul(plain(hi), power(32)), plain(lo))
}

// taken: of a whole number the upper and the lower half of its lowest 64 bits.
func taken(v *big.Int) (uint32, uint32) {
	hi, lo := new(big.Int).DivMod(new(big.Int).Mod(v, power(64)), power(32), new(big.Int))
	return uint32(hi.Uint64()), uint32(lo.Uint64())
}

// within: is v from least on, and below end?
func within(v, least, end *big.Int) bool {
	return v.Cmp(least) >= 0 && v.Cmp(end) < 0
}

func fitsPlain(v *big.Int) bool  { return within(v, new(big.Int), power(32)) }
func fitsSigned(v *big.Int) bool { return within(v, new(big.Int).Neg(power(31)), power(31)) }

func modelMul(f api.Flags, a, b uint32) (uint32, uint32, api.Flags) {
	product := new(big.Int).Mul(plain(a), plain(b))
	hi, lo := taken(product)
	f.C = !fitsPlain(product)
	f.O = f.C
	return hi, lo, f
}

func modelImul(f api.Flags, a, b uint32) (uint32, uint32, api.Flags) {
	product := new(big.Int).Mul(withSign(plain(a), 32), withSign(plain(b), 32))
	hi, lo := taken(product)
	f.C = !fitsSigned(product)
	f.O = f.C
	return hi, lo, f
}

func modelDiv(hi, lo, by uint32) (uint32, uint32, bool) {
	if by == 0 {
		return 0, 0, false
	}
	return quotient(both(hi, lo), plain(by), fitsPlain)
}

func modelIdiv(hi, lo, by uint32) (uint32, uint32, bool) {
	if by == 0 {
		return 0, 0, false
	}
	return quotient(withSign(both(hi, lo), 64), withSign(plain(by), 32), fitsSigned)
}

func quotient(whole, by *big.Int, fits func(*big.Int) bool) (uint32, uint32, bool) {
	q, r := new(big.Int).QuoRem(whole, by, new(big.Int))
	if !fits(q) {
		return 0, 0, false
	}
	_, ql := taken(q)
	_, rl := taken(r)
	return ql, rl, true
}

type times func(f api.Flags, a, b uint32) (uint32, uint32, api.Flags)

func checkTimes(t *testing.T, name string, do times, f api.Flags, a, b, hi, lo uint32, g api.Flags) {
	t.Helper()
	if h, l, gf := do(f, a, b); h != hi || l != lo || gf != g {
		t.Fatalf("P3.1: %s(%+v, %#x, %#x): %#x %#x %+v, not %#x %#x %+v", name, f, a, b, h, l, gf, hi, lo, g)
	}
}

type parts func(hi, lo, by uint32) (uint32, uint32, bool)

func checkParts(t *testing.T, name string, do parts, hi, lo, by, q, r uint32, ok bool) {
	t.Helper()
	if gq, gr, gok := do(hi, lo, by); gq != q || gr != r || gok != ok {
		t.Fatalf("P3.2: %s(%#x, %#x, %#x): %#x %#x %v, not %#x %#x %v", name, hi, lo, by, gq, gr, gok, q, r, ok)
	}
}

// checkProducts holds Mul and Imul of a, b against the model.
func checkProducts(t *testing.T, f api.Flags, a, b uint32) {
	t.Helper()
	hi, lo, g := modelMul(f, a, b)
	checkTimes(t, "Mul", Mul, f, a, b, hi, lo, g)
	hi, lo, g = modelImul(f, a, b)
	checkTimes(t, "Imul", Imul, f, a, b, hi, lo, g)
}

// checkQuotients holds Div and Idiv against the model.
func checkQuotients(t *testing.T, hi, lo, by uint32) {
	t.Helper()
	q, r, ok := modelDiv(hi, lo, by)
	checkParts(t, "Div", Div, hi, lo, by, q, r, ok)
	q, r, ok = modelIdiv(hi, lo, by)
	checkParts(t, "Idiv", Idiv, hi, lo, by, q, r, ok)
}

func TestProducts(t *testing.T) {
	before := marks.All()
	for i, a := range numbers() {
		for j, b := range numbers() {
			checkProducts(t, before[(7*i+j)%len(before)], a, b)
		}
	}
	all := mixed(6000)
	for i, a := range all[1:] {
		checkProducts(t, before[i%len(before)], a, all[i])
	}
}

// Each flag before, at products that fit and that don't.
func TestFlagsBeforeProducts(t *testing.T) {
	some := []uint32{0, 1, 2, 3, 0xffff, 0x10000, 0x7fffffff, 0x80000000, 0xfffffffe, 0xffffffff}
	for _, f := range marks.All() {
		for _, a := range some {
			for _, b := range some {
				checkProducts(t, f, a, b)
				for _, do := range []times{Mul, Imul} {
					_, _, g := do(f, a, b)
					if g.Z != f.Z || g.S != f.S || g.P != f.P || g.D != f.D || g.C != g.O {
						t.Fatalf("P3.1: of %+v, %#x, %#x: %+v", f, a, b, g)
					}
				}
			}
		}
	}
}

func TestProductsByHand(t *testing.T) {
	for _, x := range []struct {
		name   string
		do     times
		before string
		a, b   uint32
		hi, lo uint32
		after  string
	}{
		{"Mul", Mul, "", 0, 0, 0, 0, ""},
		{"Mul", Mul, "COZSPD", 0, 0xffffffff, 0, 0, "ZSPD"},
		{"Mul", Mul, "", 6, 7, 0, 42, ""},
		{"Mul", Mul, "CO", 1, 0xffffffff, 0, 0xffffffff, ""},
		{"Mul", Mul, "", 0xffff, 0x10001, 0, 0xffffffff, ""},
		{"Mul", Mul, "", 0x10000, 0x10000, 1, 0, "CO"},
		{"Mul", Mul, "ZSPD", 2, 0x80000000, 1, 0, "COZSPD"},
		{"Mul", Mul, "D", 0xffffffff, 0xffffffff, 0xfffffffe, 1, "COD"},
		{"Mul", Mul, "C", 0xffffffff, 2, 1, 0xfffffffe, "CO"},
		{"Mul", Mul, "O", 0x7fffffff, 2, 0, 0xfffffffe, ""},
		{"Mul", Mul, "", 0x12345678, 0x9abcdef0, 0x0b00ea4e, 0x242d2080, "CO"},
		{"Imul", Imul, "", 0, 0x80000000, 0, 0, ""},
		{"Imul", Imul, "COZSPD", 6, 7, 0, 42, "ZSPD"},
		{"Imul", Imul, "", 0xffffffff, 0xffffffff, 0, 1, ""},
		{"Imul", Imul, "C", 0xffffffff, 1, 0xffffffff, 0xffffffff, ""},
		{"Imul", Imul, "O", 0xfffffffa, 7, 0xffffffff, 0xffffffd6, ""},
		{"Imul", Imul, "", 0x7fffffff, 1, 0, 0x7fffffff, ""},
		{"Imul", Imul, "", 1, 0x80000000, 0xffffffff, 0x80000000, ""},
		{"Imul", Imul, "ZSPD", 0xffffffff, 0x80000000, 0, 0x80000000, "COZSPD"},
		{"Imul", Imul, "", 0x40000000, 2, 0, 0x80000000, "CO"},
		{"Imul", Imul, "", 0xc0000000, 2, 0xffffffff, 0x80000000, ""},
		{"Imul", Imul, "", 0xbfffffff, 2, 0xffffffff, 0x7ffffffe, "CO"},
		{"Imul", Imul, "", 0x10000, 0x8000, 0, 0x80000000, "CO"},
		{"Imul", Imul, "", 0x10000, 0xffff8000, 0xffffffff, 0x80000000, ""},
		{"Imul", Imul, "P", 0x7fffffff, 0x7fffffff, 0x3fffffff, 1, "COP"},
		{"Imul", Imul, "S", 0x80000000, 0x80000000, 0x40000000, 0, "COS"},
		{"Imul", Imul, "D", 0x80000000, 0x7fffffff, 0xc0000000, 0x80000000, "COD"},
		{"Imul", Imul, "", 0x7fffffff, 2, 0, 0xfffffffe, "CO"},
	} {
		checkTimes(t, x.name, x.do, marks.Of(x.before), x.a, x.b, x.hi, x.lo, marks.Of(x.after))
	}
}

func TestQuotients(t *testing.T) {
	for _, hi := range numbers() {
		for _, lo := range []uint32{0, 1, 7, 0x7fffffff, 0x80000000, 0x80000001, 0xdeadbeef, 0xfffffffe, 0xffffffff} {
			for _, by := range numbers() {
				checkQuotients(t, hi, lo, by)
			}
		}
	}
	for _, lo := range numbers() {
		for _, hi := range []uint32{0, 1, 0xffffffff, 0x80000000} {
			for _, by := range numbers() {
				checkQuotients(t, hi, lo, by)
			}
		}
	}
	all := mixed(6000)
	for i, by := range all[2:] {
		checkQuotients(t, all[i], all[i+1], by)
	}
}

// The greatest quotient that 32 bits have, and the one past it, with each of the outermost rests.
func TestGreatestQuotients(t *testing.T) {
	for _, by := range numbers() {
		if by == 0 {
			continue
		}
		for _, r := range []uint32{0, by - 1} {
			fit := new(big.Int).Add(new(big.Int).Mul(big.NewInt(0xffffffff), plain(by)), plain(r))
			hi, lo := taken(fit)
			checkParts(t, "Div", Div, hi, lo, by, 0xffffffff, r, true)
			hi, lo = taken(new(big.Int).Add(fit, plain(by)))
			checkParts(t, "Div", Div, hi, lo, by, 0, 0, false)
		}
	}
}

// The greatest and the least quotient that signed 32 bits have, and the ones past them, with each of the outermost rests.
func TestOutermostSignedQuotients(t *testing.T) {
	for _, by := range numbers() {
		if by == 0 {
			continue
		}
		signed := withSign(plain(by), 32)
		most := new(big.Int).Sub(new(big.Int).Abs(signed), big.NewInt(1))
		for _, q := range []int64{0x7fffffff, 0x80000000, -0x80000000, -0x80000001} {
			for _, r := range []*big.Int{new(big.Int), most} {
				whole := new(big.Int).Mul(big.NewInt(q), signed)
				rest := new(big.Int).Mul(r, big.NewInt(int64(whole.Sign())))
				hi, lo := taken(whole.Add(whole, rest))
				if q == 0x7fffffff || q == -0x80000000 {
					_, low := taken(rest)
					checkParts(t, "Idiv", Idiv, hi, lo, by, uint32(q), low, true)
				} else {
					checkParts(t, "Idiv", Idiv, hi, lo, by, 0, 0, false)
				}
			}
		}
	}
}

func TestQuotientsByHand(t *testing.T) {
	for _, x := range []struct {
		name       string
		do         parts
		hi, lo, by uint32
		q, r       uint32
		ok         bool
	}{
		{"Div", Div, 0, 7, 2, 3, 1, true},
		{"Div", Div, 0, 0, 5, 0, 0, true},
		{"Div", Div, 0, 6, 3, 2, 0, true},
		{"Div", Div, 0, 2, 7, 0, 2, true},
		{"Div", Div, 0, 0xffffffff, 1, 0xffffffff, 0, true},
		{"Div", Div, 1, 0, 1, 0, 0, false},
		{"Div", Div, 1, 0, 2, 0x80000000, 0, true},
		{"Div", Div, 1, 0xffffffff, 2, 0xffffffff, 1, true},
		{"Div", Div, 2, 0, 2, 0, 0, false},
		{"Div", Div, 0xfffffffe, 0xffffffff, 0xffffffff, 0xffffffff, 0xfffffffe, true},
		{"Div", Div, 0xffffffff, 0, 0xffffffff, 0, 0, false},
		{"Div", Div, 0xffffffff, 0xffffffff, 0xffffffff, 0, 0, false},
		{"Div", Div, 0x7fffffff, 0xffffffff, 0x80000000, 0xffffffff, 0x7fffffff, true},
		{"Div", Div, 0x80000000, 0, 0xffffffff, 0x80000000, 0x80000000, true},
		{"Idiv", Idiv, 0, 7, 2, 3, 1, true},
		{"Idiv", Idiv, 0, 0, 0xfffffffb, 0, 0, true},
		{"Idiv", Idiv, 0xffffffff, 0xfffffff9, 2, 0xfffffffd, 0xffffffff, true},
		{"Idiv", Idiv, 0, 7, 0xfffffffe, 0xfffffffd, 1, true},
		{"Idiv", Idiv, 0xffffffff, 0xfffffff9, 0xfffffffe, 3, 0xffffffff, true},
		{"Idiv", Idiv, 0xffffffff, 0xffffffff, 2, 0, 0xffffffff, true},
		{"Idiv", Idiv, 0xffffffff, 0xfffffffa, 3, 0xfffffffe, 0, true},
		{"Idiv", Idiv, 0, 0x7fffffff, 1, 0x7fffffff, 0, true},
		{"Idiv", Idiv, 0, 0x80000000, 1, 0, 0, false},
		{"Idiv", Idiv, 0, 0x80000000, 0xffffffff, 0x80000000, 0, true},
		{"Idiv", Idiv, 0, 0x80000001, 0xffffffff, 0, 0, false},
		{"Idiv", Idiv, 0xffffffff, 0x80000000, 1, 0x80000000, 0, true},
		{"Idiv", Idiv, 0xffffffff, 0x7fffffff, 1, 0, 0, false},
		{"Idiv", Idiv, 0xffffffff, 0x80000001, 0xffffffff, 0x7fffffff, 0, true},
		{"Idiv", Idiv, 0, 0xffffffff, 2, 0x7fffffff, 1, true},
		{"Idiv", Idiv, 1, 0, 2, 0, 0, false},
		{"Idiv", Idiv, 0xfffffffe, 0xffffffff, 2, 0x80000000, 0xffffffff, true},
		{"Idiv", Idiv, 0xfffffffe, 0xfffffffe, 2, 0, 0, false},
		{"Idiv", Idiv, 0x40000000, 0, 0x80000000, 0x80000000, 0, true},
		{"Idiv", Idiv, 0x40000000, 0x80000000, 0x80000000, 0, 0, false},
		{"Idiv", Idiv, 0xc0000000, 0, 0x80000000, 0, 0, false},
		{"Idiv", Idiv, 0xc0000000, 1, 0x80000000, 0x7fffffff, 0x80000001, true},
		// The least numbers by -1: their quotients are one past the greatest ones.
		{"Idiv", Idiv, 0x80000000, 0, 0xffffffff, 0, 0, false},
		{"Idiv", Idiv, 0xffffffff, 0x80000000, 0xffffffff, 0, 0, false},
		{"Idiv", Idiv, 0x80000000, 0, 1, 0, 0, false},
		{"Idiv", Idiv, 0x80000000, 0, 0x80000000, 0, 0, false},
		{"Idiv", Idiv, 0x7fffffff, 0xffffffff, 0xffffffff, 0, 0, false},
	} {
		checkParts(t, x.name, x.do, x.hi, x.lo, x.by, x.q, x.r, x.ok)
	}
}

func TestByNought(t *testing.T) {
	for _, hi := range numbers() {
		for _, lo := range numbers() {
			checkParts(t, "Div", Div, hi, lo, 0, 0, 0, false)
			checkParts(t, "Idiv", Idiv, hi, lo, 0, 0, 0, false)
		}
	}
}

// A rest is nearer to nought than what it was divided by, has the sign of what is divided, and the quotient with it makes that again.
func TestRests(t *testing.T) {
	for _, lo := range numbers() {
		for _, hi := range []uint32{0, 1, 3, 0xfffffffc, 0xffffffff} {
			for _, by := range numbers() {
				q, r, ok := Idiv(hi, lo, by)
				if !ok {
					continue
				}
				whole, rest, part := withSign(both(hi, lo), 64), withSign(plain(r), 32), withSign(plain(by), 32)
				again := new(big.Int).Mul(withSign(plain(q), 32), part)
				if again.Add(again, rest).Cmp(whole) != 0 || rest.CmpAbs(part) >= 0 || rest.Sign() != 0 && rest.Sign() != whole.Sign() {
					t.Fatalf("P3.2: Idiv(%#x, %#x, %#x): %#x, %#x", hi, lo, by, q, r)
				}
			}
		}
	}
}

// What a flag doesn't tell of is whole in the lower half alone; what it tells of isn't; what a product was comes back from both halves, as far as a quotient fits.
func TestWhatDoesNotFitIsTold(t *testing.T) {
	for _, a := range numbers() {
		for _, b := range numbers() {
			hi, lo, f := Mul(api.Flags{}, a, b)
			if f.C != (plain(lo).Cmp(both(hi, lo)) != 0) || f.O != f.C {
				t.Fatalf("P3.3: Mul(%#x, %#x): %#x %#x %+v", a, b, hi, lo, f)
			}
			if q, r, ok := Div(hi, lo, b); ok != (b != 0) || ok && (q != a || r != 0) {
				t.Fatalf("P3.3: Div of the product of %#x and %#x: %#x %#x %v", a, b, q, r, ok)
			}
			hi, lo, f = Imul(api.Flags{}, a, b)
			if f.C != (withSign(plain(lo), 32).Cmp(withSign(both(hi, lo), 64)) != 0) || f.O != f.C {
				t.Fatalf("P3.3: Imul(%#x, %#x): %#x %#x %+v", a, b, hi, lo, f)
			}
			if q, r, ok := Idiv(hi, lo, b); ok != (b != 0) || ok && (q != a || r != 0) {
				t.Fatalf("P3.3: Idiv of the product of %#x and %#x: %#x %#x %v", a, b, q, r, ok)
			}
		}
	}
}
