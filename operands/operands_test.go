package operands

import (
	"slices"
	"testing"

	"saltern/api"
)

func TestOneByOne(t *testing.T) {
	for _, x := range []struct{ got, want api.Operand }{
		{None(), api.Operand{Base: -1, Index: -1, Scale: 1}},
		{Reg(7), api.Operand{Kind: api.Reg, Reg: 7, Base: -1, Index: -1, Scale: 1}},
		{Low(4), api.Operand{Kind: api.Low, Reg: 4, Base: -1, Index: -1, Scale: 1}},
		{Dbl(1), api.Operand{Kind: api.Dbl, Reg: 1, Base: -1, Index: -1, Scale: 1}},
		{Imm(0x80000000), api.Operand{Kind: api.Imm, Base: -1, Index: -1, Scale: 1, Disp: 0x80000000}},
		{Mem(4, 3, 8, 5), api.Operand{Kind: api.Mem, Base: 4, Index: 3, Scale: 8, Disp: 5}},
	} {
		if x.got != x.want {
			t.Errorf("%+v, not %+v", x.got, x.want)
		}
	}
}

func TestRights(t *testing.T) {
	seen := map[api.Operand]int{}
	for _, o := range Rights(9) {
		seen[o]++
		if o.Kind != api.Mem || o.Disp != 9 || o.Index == 4 {
			t.Errorf("Rights: %+v", o)
		}
	}
	if len(seen) != 9*(1+7*4) || len(Rights(9)) != len(seen) {
		t.Errorf("Rights: %d, %d unlike ones", len(Rights(9)), len(seen))
	}
}

func TestNumbers(t *testing.T) {
	if !slices.IsSorted(Disps()[:20]) || len(slices.Compact(slices.Sorted(slices.Values(Disps())))) != len(Disps()) {
		t.Errorf("Disps: %x", Disps())
	}
	for _, v := range []int{-1, 0, 1, 7} {
		if slices.Contains(Like(v), v) || !slices.Contains(Like(v), v+256) || !slices.Contains(Like(v), v-1<<32) {
			t.Errorf("Like(%d): %d", v, Like(v))
		}
	}
}

func TestInts(t *testing.T) {
	var o api.Operand
	for k, p := range Ints(&o) {
		*p = k + 1
	}
	if want := (api.Operand{Kind: 1, Reg: 2, Base: 3, Index: 4, Scale: 5}); o != want {
		t.Errorf("Ints: %+v", o)
	}
}
