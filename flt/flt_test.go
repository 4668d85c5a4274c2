package flt

import (
	"math"
	"math/big"
	"testing"

	"saltern/api"
	"saltern/marks"
)

// Doubles by their bits, as IEEE 754 lays them out.
const (
	minus    = uint64(1) << 63
	one      = uint64(0x3ff0000000000000)
	two      = uint64(0x4000000000000000)
	three    = uint64(0x4008000000000000)
	half     = uint64(0x3fe0000000000000)
	tiniest  = uint64(1) // the least of all
	least    = uint64(0x0010000000000000)
	greatest = uint64(0x7fefffffffffffff)
	endless  = uint64(0x7ff0000000000000)
	nothing  = uint64(0xfff8000000000000) // the plain NaN
)

// four: the ops that reckon of two.
var four = []struct {
	op   int
	name string
}{{api.Addd, "Addd"}, {api.Subd, "Subd"}, {api.Muld, "Muld"}, {api.Divd, "Divd"}}

// known: all ops that do something.
func known() []int {
	return []int{api.Movd, api.Addd, api.Subd, api.Muld, api.Divd, api.Sqrtd, api.Mind, api.Maxd}
}

// others: ops that are none of the known ones.
func others() []int {
	isKnown := map[int]bool{}
	var all []int
	for _, op := range known() {
		isKnown[op] = true
		// Numbers that would pass for an op by their lowest bits alone.
		all = append(all, -op, op+0x100, op-0x100, op|1<<16)
	}
	for op := -40; op < api.Ops+40; op++ {
		if !isKnown[op] {
			all = append(all, op)
		}
	}
	return append(all, math.MinInt, math.MinInt32, math.MaxInt32, math.MaxInt)
}

// bothSigns answers each of these with and without its sign bit.
func bothSigns(all []uint64) []uint64 {
	for _, v := range all {
		all = append(all, v^minus)
	}
	return all
}

// numbers: doubles that are numbers or infinite: about nought, the ends of what a double has, one, the ends of whole numbers, where products and quotients begin not to fit.
func numbers() []uint64 {
	return bothSigns([]uint64{
		0, tiniest, 2, 3, 0x0008000000000000, least - 1, least, least + 1, 2 * least,
		one - 1, one, one + 1, one + 2, two, three, half, half + 1, 0x3ff8000000000000, 0x3fd5555555555555, 0x3fb999999999999a, 0x4024000000000000,
		0x3ca0000000000000, 0x3ca0000000000001, 0x3c90000000000000, 0x4330000000000000, 0x433fffffffffffff, 0x4340000000000000, 0x4340000000000001,
		0x41dfffffffc00000, 0x41dfffffffffffff, 0x41e0000000000000, 0x41efffffffe00000, 0x43e0000000000000,
		0x1e60000000000000, 0x1e50000000000000, 0x1e66a09e667f3bcd, 0x5fefffffffffffff, 0x5ff0000000000000, 0x5ff6a09e667f3bcd,
		0x7c90000000000000, 0x7c8fffffffffffff, 0x7fd0000000000000, 0x7fe0000000000000, greatest - 1, greatest, endless,
	})
}

// nans: quiet ones and others, the least and the greatest fractions of each, ones with a fraction to be known by.
func nans() []uint64 {
	return bothSigns([]uint64{
		endless + 1, endless + 2, 0x7ff4000000000000, 0x7ff123456789abcd, 0x7ff7fffffffffffe, 0x7ff7ffffffffffff,
		0x7ff8000000000000, 0x7ff8000000000001, 0x7ffdeadbeef00042, 0x7ffffffffffffffe, 0x7fffffffffffffff,
	})
}

// mixed: many doubles without an order, the same ones at each run; half of them lie near to one, where sums and such meet each other.
func mixed(count int) []uint64 {
	var all []uint64
	v := uint64(0x9e3779b97f4a7c15)
	for i := range count {
		v ^= v << 13
		v ^= v >> 7
		v ^= v << 17
		if i%2 == 0 {
			all = append(all, v)
		} else {
			all = append(all, v&^(0x7f<<56)|0x3f<<56)
		}
	}
	return all
}

// number: what a double's bits say: its sign and, without one, its size: a fraction of whole numbers, unless it is infinite or no number.
type number struct {
	minus, infinite, none bool
	size                  *big.Rat
}

func read(v uint64) number {
	exponent, fraction := int(v>>52&2047), v%(1<<52)
	n := number{minus: v >= minus, infinite: exponent == 2047 && fraction == 0, none: exponent == 2047 && fraction != 0}
	if exponent > 0 {
		fraction += 1 << 52
		exponent--
	}
	whole := new(big.Int).SetUint64(fraction)
	n.size = new(big.Rat).SetFrac(whole.Lsh(whole, uint(exponent)), new(big.Int).Lsh(big.NewInt(1), 1074))
	return n
}

func (n number) nought() bool { return !n.infinite && n.size.Sign() == 0 }

// value: a finite number with its sign.
func (n number) value() *big.Rat {
	if n.minus {
		return new(big.Rat).Neg(n.size)
	}
	return n.size
}

// write: the double that is nearest to a number.
func write(n number) uint64 {
	if n.none {
		return nothing
	}
	v := endless
	if !n.infinite {
		near, _ := n.size.Float64()
		v = math.Float64bits(near)
	}
	if n.minus {
		v += minus
	}
	return v
}

// of: a fraction as a number; nought has no sign.
func of(v *big.Rat) number {
	return number{minus: v.Sign() < 0, size: new(big.Rat).Abs(v)}
}

func modelSum(a, b number) number {
	switch {
	case a.infinite && b.infinite:
		return number{infinite: true, minus: a.minus, none: a.minus != b.minus}
	case a.infinite:
		return a
	case b.infinite:
		return b
	case a.nought() && b.nought():
		return number{minus: a.minus && b.minus, size: a.size}
	}
	return of(new(big.Rat).Add(a.value(), b.value()))
}

func modelProduct(a, b number) number {
	r := number{minus: a.minus != b.minus}
	if a.infinite || b.infinite {
		r.infinite, r.none = true, a.nought() || b.nought()
		return r
	}
	r.size = new(big.Rat).Mul(a.size, b.size)
	return r
}

func modelQuotient(a, b number) number {
	r := number{minus: a.minus != b.minus, size: new(big.Rat)}
	switch {
	case a.infinite || b.nought():
		r.infinite, r.none = true, a.infinite && b.infinite || a.nought()
	case !b.infinite:
		r.size.Quo(a.size, b.size)
	}
	return r
}

// model reckons the four in whole numbers.
func model(op int, a, b uint64) uint64 {
	x, y := read(a), read(b)
	switch {
	case x.none:
		return a | 1<<51
	case y.none:
		return b | 1<<51
	}
	switch op {
	case api.Subd:
		y.minus = !y.minus
		return write(modelSum(x, y))
	case api.Muld:
		return write(modelProduct(x, y))
	case api.Divd:
		return write(modelQuotient(x, y))
	}
	return write(modelSum(x, y))
}

// order: below, of equals, above: -1, 0, 1; false of a NaN.
func order(a, b uint64) (int, bool) {
	x, y := read(a), read(b)
	if x.none || y.none {
		return 0, false
	}
	rank := func(n number) *big.Rat {
		// Past the greatest double, so that an infinite one is held against others as it stands.
		if n.infinite {
			n.size = new(big.Rat).SetInt(new(big.Int).Lsh(big.NewInt(1), 1024))
		}
		return n.value()
	}
	return rank(x).Cmp(rank(y)), true
}

func check(t *testing.T, promise, name string, op int, a, b, want uint64) {
	t.Helper()
	if got := Do(op, a, b); got != want {
		t.Fatalf("%s: %s of %#x, %#x: %#x, not %#x", promise, name, a, b, got, want)
	}
}

func TestIsNaNAndQuiet(t *testing.T) {
	all := append(append(numbers(), nans()...), mixed(20000)...)
	for i := range 52 {
		all = append(all, bothSigns([]uint64{endless + 1<<i, endless - 1<<i, one + 1<<i, 1 << i, 0x7fe0000000000000 + 1<<i})...)
	}
	for _, v := range all {
		want := read(v).none
		if IsNaN(v) != want {
			t.Fatalf("P4.1: IsNaN(%#x): %v", v, !want)
		}
		kept := v
		if want {
			kept = v | 1<<51
		}
		if got := Quiet(v); got != kept {
			t.Fatalf("P4.1: Quiet(%#x): %#x", v, got)
		}
	}
}

func TestIsNaNAndQuietByHand(t *testing.T) {
	for _, x := range []struct {
		v    uint64
		none bool
		want uint64
	}{
		{0, false, 0}, {minus, false, minus}, {one, false, one}, {greatest, false, greatest}, {least - 1, false, least - 1},
		{endless, false, endless}, {endless + minus, false, endless + minus}, {1 << 51, false, 1 << 51},
		{endless + 1, true, 0x7ff8000000000001}, {0xfff0000000000001, true, 0xfff8000000000001},
		{0x7ff7ffffffffffff, true, 0x7fffffffffffffff}, {0x7ff8000000000000, true, 0x7ff8000000000000},
		{nothing, true, nothing}, {0xffffffffffffffff, true, 0xffffffffffffffff}, {0xfff4000000000042, true, 0xfffc000000000042},
	} {
		if none, got := IsNaN(x.v), Quiet(x.v); none != x.none || got != x.want {
			t.Errorf("P4.1: IsNaN, Quiet of %#x: %v, %#x", x.v, none, got)
		}
	}
}

func TestFourAgainstWholeNumbers(t *testing.T) {
	for _, x := range four {
		for _, a := range append(numbers(), nans()[:4]...) {
			for _, b := range append(numbers(), nans()[:4]...) {
				check(t, "P4.1", x.name, x.op, a, b, model(x.op, a, b))
			}
		}
		all := mixed(4000)
		for i, a := range all[2:] {
			check(t, "P4.1", x.name, x.op, a, all[i], model(x.op, a, all[i]))
			check(t, "P4.1", x.name, x.op, a, all[i+1], model(x.op, a, all[i+1]))
		}
	}
}

func TestSumsByHand(t *testing.T) {
	for _, x := range []struct{ a, b, sum uint64 }{
		{one, one, two}, {one, two, three}, {one, one + minus, 0}, {one + minus, one, 0}, {0, 0, 0},
		{0, minus, 0}, {minus, 0, 0}, {minus, minus, minus}, {minus, one, one}, {one + minus, 0, one + minus},
		{tiniest, tiniest, 2}, {tiniest, tiniest + minus, 0}, {least - 1, tiniest, least}, {least, tiniest + minus, least - 1},
		{minus, tiniest + minus, tiniest + minus}, {greatest, tiniest, greatest}, {greatest, greatest + minus, 0},
		// Rounded to the nearest: what lies in the middle goes to the even one.
		{one, 0x3ca0000000000000, one}, {one, 0x3ca0000000000001, one + 1}, {one + 1, 0x3ca0000000000000, one + 2}, {one + 1, 0x3c9fffffffffffff, one + 1},
		{one + minus, 0xbca0000000000000, one + minus}, {one + 1 + minus, 0xbca0000000000000, one + 2 + minus},
		{greatest, 0x7c90000000000000, endless}, {greatest, 0x7c8fffffffffffff, greatest}, {greatest + minus, 0xfc90000000000000, endless + minus},
		{greatest, greatest, endless}, {greatest + minus, greatest + minus, endless + minus},
		{endless, one, endless}, {endless, greatest + minus, endless}, {endless + minus, 0, endless + minus}, {endless, endless, endless},
		{endless + minus, endless + minus, endless + minus}, {endless, endless + minus, nothing}, {endless + minus, endless, nothing},
	} {
		check(t, "P4.1", "Addd", api.Addd, x.a, x.b, x.sum)
		check(t, "P4.1", "Subd", api.Subd, x.a, x.b^minus, x.sum)
	}
	check(t, "P4.1", "Subd", api.Subd, three, one, two)
	check(t, "P4.1", "Subd", api.Subd, one, three, two+minus)
	check(t, "P4.1", "Subd", api.Subd, endless, endless, nothing)
}

func TestProductsByHand(t *testing.T) {
	for _, x := range []struct{ a, b, product uint64 }{
		{two, three, 0x4018000000000000}, {two + minus, three, 0xc018000000000000}, {two + minus, three + minus, 0x4018000000000000}, {one, greatest, greatest},
		{0, 0, 0}, {0, minus, minus}, {minus, minus, 0}, {minus, one, minus}, {0, one + minus, minus}, {minus, one + minus, 0},
		{0, endless, nothing}, {endless, minus, nothing}, {endless + minus, 0, nothing}, {minus, endless + minus, nothing},
		{endless, endless, endless}, {endless, endless + minus, endless + minus}, {endless + minus, tiniest + minus, endless}, {endless, one + minus, endless + minus},
		{greatest, two, endless}, {greatest, two + minus, endless + minus}, {greatest, one + 1, endless}, {greatest, one - 1, greatest - 1},
		{tiniest, half, 0}, {tiniest, half + 1, tiniest}, {tiniest + minus, half, minus}, {3, half, 2}, {tiniest, 0x3ff8000000000000, 2},
		{tiniest, tiniest, 0}, {tiniest, tiniest + minus, minus}, {least, half, least / 2}, {least + 1, half, least / 2}, {least + 3, half, least/2 + 2},
		{tiniest, greatest, 0x3ccfffffffffffff},
	} {
		check(t, "P4.1", "Muld", api.Muld, x.a, x.b, x.product)
		check(t, "P4.1", "Muld", api.Muld, x.b, x.a, x.product)
	}
}

func TestQuotientsByHand(t *testing.T) {
	for _, x := range []struct{ a, b, quotient uint64 }{
		{one, minus, endless + minus}, {one, 0, endless}, {one + minus, 0, endless + minus}, {one + minus, minus, endless},
		{0, 0, nothing}, {0, minus, nothing}, {minus, 0, nothing}, {minus, minus, nothing},
		{endless, endless, nothing}, {endless + minus, endless, nothing}, {endless, endless + minus, nothing}, {endless + minus, endless + minus, nothing},
		{0, one, 0}, {minus, one, minus}, {0, one + minus, minus}, {minus, one + minus, 0}, {0, endless, 0}, {minus, endless, minus},
		{one, endless, 0}, {one + minus, endless, minus}, {one, endless + minus, minus}, {greatest, endless, 0},
		{endless, 0, endless}, {endless, minus, endless + minus}, {endless + minus, greatest, endless + minus}, {endless, tiniest + minus, endless + minus},
		{0x4018000000000000, two, three}, {0xc018000000000000, two, three + minus}, {two, 0x4018000000000000, 0x3fd5555555555555}, {one, three, 0x3fd5555555555555},
		{greatest, half, endless}, {greatest, greatest, one}, {tiniest, tiniest + minus, one + minus}, {tiniest, two, 0}, {3, two, 2}, {3 + minus, two, 2 + minus},
		{tiniest, greatest, 0}, {tiniest + minus, greatest, minus}, {greatest, tiniest, endless}, {least, two, least / 2},
	} {
		check(t, "P4.1", "Divd", api.Divd, x.a, x.b, x.quotient)
	}
}

// Of two NaNs the first one stays; of one that one does, wherever it stands; its sign and its fraction are its own, but that it is quiet.
func TestNaNsOfFour(t *testing.T) {
	for _, x := range four {
		for _, n := range nans() {
			for _, b := range append(numbers(), nans()...) {
				check(t, "P4.1", x.name, x.op, n, b, n|1<<51)
			}
			for _, a := range numbers() {
				check(t, "P4.1", x.name, x.op, a, n, n|1<<51)
			}
		}
	}
}

func TestRoots(t *testing.T) {
	for _, x := range []struct{ b, root uint64 }{
		{0, 0}, {minus, minus}, {one, one}, {0x4010000000000000, two}, {0x4022000000000000, three}, {two, 0x3ff6a09e667f3bcd}, {0x3fd0000000000000, half},
		{endless, endless}, {greatest, 0x5fefffffffffffff}, {tiniest, 0x1e60000000000000}, {4, 0x1e70000000000000}, {least, 0x2000000000000000}, {one - 1, one - 1}, {one + 1, one},
		{one + minus, nothing}, {tiniest + minus, nothing}, {least - 1 + minus, nothing}, {greatest + minus, nothing}, {endless + minus, nothing},
		{endless + 1, 0x7ff8000000000001}, {0xfff0000000000042, 0xfff8000000000042}, {0x7ff8000000000000, 0x7ff8000000000000}, {0xffffffffffffffff, 0xffffffffffffffff},
	} {
		for _, a := range append(numbers(), nans()...) {
			check(t, "P4.1", "Sqrtd", api.Sqrtd, a, x.b, x.root)
		}
	}
}

// A root is nearest where what it is of lies between the squares of the middles to its neighbours.
func TestRootsAreNearest(t *testing.T) {
	middle := func(a, b uint64) *big.Rat {
		sum := new(big.Rat).Add(read(a).size, read(b).size)
		return sum.Quo(sum, big.NewRat(2, 1))
	}
	square := func(v *big.Rat) *big.Rat { return new(big.Rat).Mul(v, v) }
	for _, b := range append(numbers(), mixed(6000)...) {
		if b == 0 || b >= endless {
			continue
		}
		r := Do(api.Sqrtd, 0, b)
		if r == 0 || r >= endless {
			t.Fatalf("P4.1: Sqrtd of %#x: %#x", b, r)
		}
		size := read(b).size
		if square(middle(r-1, r)).Cmp(size) >= 0 || square(middle(r, r+1)).Cmp(size) <= 0 {
			t.Fatalf("P4.1: Sqrtd of %#x: %#x is not the nearest", b, r)
		}
	}
}

func TestLesserAndGreater(t *testing.T) {
	all := append(append(numbers(), nans()...), mixed(60)...)
	for _, a := range all {
		for _, b := range all {
			lesser, greater := b, b
			if o, ok := order(a, b); ok && o < 0 {
				lesser = a
			} else if ok && o > 0 {
				greater = a
			}
			check(t, "P4.1", "Mind", api.Mind, a, b, lesser)
			check(t, "P4.1", "Maxd", api.Maxd, a, b, greater)
		}
	}
}

func TestLesserAndGreaterByHand(t *testing.T) {
	for _, x := range []struct{ a, b, lesser, greater uint64 }{
		{one, two, one, two}, {two, one, one, two}, {one, one, one, one}, {one + minus, two + minus, two + minus, one + minus}, {one, one + minus, one + minus, one},
		{0, minus, minus, minus}, {minus, 0, 0, 0}, {0, 0, 0, 0}, {minus, minus, minus, minus},
		{minus, tiniest, minus, tiniest}, {tiniest + minus, 0, tiniest + minus, 0}, {0, tiniest + minus, tiniest + minus, 0},
		{endless, greatest, greatest, endless}, {endless + minus, greatest + minus, endless + minus, greatest + minus}, {endless, endless, endless, endless}, {endless, endless + minus, endless + minus, endless},
		// No NaN is made quiet.
		{endless + 1, one, one, one}, {one, endless + 1, endless + 1, endless + 1}, {one, 0xfff0000000000042, 0xfff0000000000042, 0xfff0000000000042},
		{nothing, endless + minus, endless + minus, endless + minus}, {nothing, minus, minus, minus}, {0, 0x7ff8000000000000, 0x7ff8000000000000, 0x7ff8000000000000},
		{0x7ff8000000000001, 0x7ff4000000000002, 0x7ff4000000000002, 0x7ff4000000000002},
	} {
		check(t, "P4.1", "Mind", api.Mind, x.a, x.b, x.lesser)
		check(t, "P4.1", "Maxd", api.Maxd, x.a, x.b, x.greater)
	}
}

func TestMovesAndOtherOps(t *testing.T) {
	all := append(append(numbers(), nans()...), mixed(20)...)
	for i, a := range all {
		b := all[(i*7+3)%len(all)]
		check(t, "P4.1", "Movd", api.Movd, a, b, b)
		for _, op := range others() {
			check(t, "P4.1", "another op", op, a, b, a)
		}
	}
	for _, op := range []int{api.Fromi, api.Toi, api.Ucomi, api.Mov, api.Add, api.Ops, 0, -1} {
		check(t, "P4.1", "another op", op, endless+1, one, endless+1)
		check(t, "P4.1", "another op", op, one, endless+1, one)
	}
}

func TestCompare(t *testing.T) {
	all := append(append(numbers(), nans()...), mixed(60)...)
	for _, a := range all {
		for _, b := range all {
			want := marks.Of("ZPC")
			if o, ok := order(a, b); ok {
				want = marks.Of([]string{"C", "Z", ""}[o+1])
			}
			if got := Compare(a, b); got != want {
				t.Fatalf("P4.2: Compare(%#x, %#x): %+v, not %+v", a, b, got, want)
			}
		}
	}
	for _, x := range []struct {
		a, b uint64
		want string
	}{
		{one, two, "C"}, {two, one, ""}, {one, one, "Z"}, {0, minus, "Z"}, {minus, 0, "Z"}, {minus, tiniest, "C"}, {tiniest + minus, minus, "C"}, {tiniest, minus, ""},
		{endless, greatest, ""}, {endless + minus, greatest + minus, "C"}, {endless, endless, "Z"}, {endless, endless + minus, ""}, {one + minus, two + minus, ""},
		{nothing, one, "ZPC"}, {one, nothing, "ZPC"}, {nothing, nothing, "ZPC"}, {endless + 1, endless, "ZPC"}, {endless + minus, endless + 1, "ZPC"},
	} {
		if got := Compare(x.a, x.b); got != marks.Of(x.want) {
			t.Errorf("P4.2: Compare(%#x, %#x): %+v, not %s", x.a, x.b, got, x.want)
		}
	}
}

func TestFromInt(t *testing.T) {
	for _, x := range []struct {
		v    uint32
		want uint64
	}{
		{0, 0}, {1, one}, {2, two}, {3, three}, {0xffffffff, one + minus}, {0xfffffffd, three + minus}, {0x7fffffff, 0x41dfffffffc00000},
		{0x80000000, 0xc1e0000000000000}, {0x80000001, 0xc1dfffffffc00000}, {0x01000001, 0x4170000010000000}, {0xfeffffff, 0xc170000010000000},
	} {
		if got := FromInt(x.v); got != x.want {
			t.Errorf("P4.2: FromInt(%#x): %#x, not %#x", x.v, got, x.want)
		}
	}
	for _, m := range mixed(20000) {
		v := uint32(m >> 20)
		signed := int64(v)
		if v >= 1<<31 {
			signed -= 1 << 32
		}
		if want := write(of(big.NewRat(signed, 1))); FromInt(v) != want {
			t.Fatalf("P4.2: FromInt(%#x): %#x, not %#x", v, FromInt(v), want)
		}
		if back := ToInt(FromInt(v)); back != v {
			t.Fatalf("P4.2: ToInt(FromInt(%#x)): %#x", v, back)
		}
	}
}

// modelInt cuts in whole numbers.
func modelInt(a uint64) uint32 {
	n := read(a)
	if n.none || n.infinite {
		return 0x80000000
	}
	whole := new(big.Int).Quo(n.size.Num(), n.size.Denom())
	if n.minus {
		whole.Neg(whole)
	}
	if whole.Cmp(big.NewInt(-1<<31)) < 0 || whole.Cmp(big.NewInt(1<<31-1)) > 0 {
		return 0x80000000
	}
	return uint32(whole.Int64())
}

func TestToInt(t *testing.T) {
	all := append(append(numbers(), nans()...), mixed(20000)...)
	// Of each size that a whole number of 64 bits may have, and of ones past it, with fractions and without.
	for e := uint64(1000); e < 1100; e++ {
		for _, fraction := range []uint64{0, 1, 1 << 51, 0x0005555555555555, 0x000fffffffe00000, 0x000fffffffffffff} {
			all = append(all, bothSigns([]uint64{e<<52 | fraction})...)
		}
	}
	for _, a := range all {
		if got, want := ToInt(a), modelInt(a); got != want {
			t.Fatalf("P4.2: ToInt(%#x): %#x, not %#x", a, got, want)
		}
	}
}

func TestToIntByHand(t *testing.T) {
	for _, x := range []struct {
		a    float64
		want uint32
	}{
		{0, 0}, {0.5, 0}, {-0.5, 0}, {1 - 1.0/(1<<53), 0}, {-1 + 1.0/(1<<53), 0}, {5e-324, 0}, {-5e-324, 0}, {1, 1}, {1.5, 1}, {-1, 0xffffffff}, {-1.5, 0xffffffff}, {2.5, 2}, {3.5, 3}, {-2.5, 0xfffffffe},
		{2147483647, 0x7fffffff}, {2147483647.5, 0x7fffffff}, {2147483647.9999998, 0x7fffffff}, {2147483648, 0x80000000}, {2147483648.5, 0x80000000}, {2147483649, 0x80000000},
		{-2147483647, 0x80000001}, {-2147483647.5, 0x80000001}, {-2147483647.9999998, 0x80000001}, {-2147483648, 0x80000000}, {-2147483648.5, 0x80000000}, {-2147483649, 0x80000000}, {-2147483650, 0x80000000},
		{4294967295, 0x80000000}, {4294967296, 0x80000000}, {4294967297, 0x80000000}, {-4294967295, 0x80000000}, {-4294967297, 0x80000000}, {8589934599, 0x80000000}, {1 << 53, 0x80000000}, {1<<53 - 1, 0x80000000},
		{1 << 63, 0x80000000}, {-1 << 63, 0x80000000}, {1 << 64, 0x80000000}, {math.MaxFloat64, 0x80000000}, {-math.MaxFloat64, 0x80000000},
		{math.Inf(1), 0x80000000}, {math.Inf(-1), 0x80000000}, {math.NaN(), 0x80000000},
	} {
		if got := ToInt(math.Float64bits(x.a)); got != x.want {
			t.Errorf("P4.2: ToInt of %g: %#x, not %#x", x.a, got, x.want)
		}
	}
	for _, a := range append(nans(), nothing) {
		if got := ToInt(a); got != 0x80000000 {
			t.Errorf("P4.2: ToInt(%#x): %#x", a, got)
		}
	}
	if got := ToInt(minus); got != 0 {
		t.Errorf("P4.2: ToInt(%#x): %#x", minus, got)
	}
}

// A NaN goes through a row of ops with its sign and its fraction, at either place.
func TestNoNumberIsKept(t *testing.T) {
	for _, n := range nans() {
		v := n
		for i, x := range numbers() {
			op := four[i%len(four)].op
			if i%8 < 4 {
				v = Do(op, v, x)
			} else {
				v = Do(op, x, v)
			}
			v = Do(api.Movd, x, Do(api.Sqrtd, x, v))
		}
		if v&^(1<<51) != n&^(1<<51) || !IsNaN(v) {
			t.Fatalf("P4.3: of %#x is kept: %#x", n, v)
		}
	}
}

// Signs go by their rule through each product and quotient, however small or great; turned round, a sum or a product has the other sign; a root of a nought has that one's.
func TestNoSignIsLost(t *testing.T) {
	for _, a := range numbers() {
		for _, b := range numbers() {
			for _, op := range []int{api.Muld, api.Divd} {
				if r := Do(op, a, b); !IsNaN(r) && r&minus != (a^b)&minus {
					t.Fatalf("P4.3: op %d of %#x, %#x: %#x", op, a, b, r)
				}
			}
			sum, turned := Do(api.Addd, a, b), Do(api.Addd, a^minus, b^minus)
			if !IsNaN(sum) && sum != turned^minus && (a != b^minus || sum != 0 || turned != 0) {
				t.Fatalf("P4.3: sums of %#x, %#x: %#x, %#x", a, b, sum, turned)
			}
		}
		if a<<1 == 0 && (Do(api.Sqrtd, one, a) != a || Do(api.Movd, one, a) != a || Do(api.Mind, 0, a) != a || Do(api.Maxd, minus, a) != a) {
			t.Fatalf("P4.3: a sign of %#x", a)
		}
	}
}
