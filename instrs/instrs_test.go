package instrs

import (
	"testing"

	"saltern/api"
	"saltern/operands"
)

func TestOne(t *testing.T) {
	want := api.Instr{Op: api.And, Size: 4, A: operands.Reg(api.EAX), B: operands.Imm(0xffffffe0), Len: 3}
	if got := One("83 e0 e0"); got != want {
		t.Errorf("One: %+v", got)
	}
	// No number, too few bytes, too many, no instruction.
	for _, bytes := range []string{"8", "xx", "", "83 e0", "83 e0 e0 90", "06"} {
		if got := One(bytes); got != (api.Instr{}) {
			t.Errorf("One(%q): %+v", bytes, got)
		}
	}
}

func TestOf(t *testing.T) {
	all := Of(func(int) bool { return true })
	seen, ops := map[api.Instr]int{}, map[int]int{}
	for _, i := range all {
		seen[i]++
		ops[i.Op]++
	}
	if len(seen) != len(all) {
		t.Errorf("Of: %d, %d unlike ones", len(all), len(seen))
	}
	for op := api.Add; op < api.Ops; op++ {
		if ops[op] == 0 {
			t.Errorf("Of: none of operation %d", op)
		}
	}
	for _, bytes := range []string{"86 e0", "0f b6 c4", "0f 4c 03", "f3 a5", "f2 0f 11 0c ed 11 22 33 44", "f7 3d 11 22 33 44", "69 c1 9f fe fd fc", "c2 c5 05", "8d 84 98 11 22 33 44"} {
		if seen[One(bytes)] != 1 {
			t.Errorf("Of: %s isn't there", bytes)
		}
	}
	for _, i := range Of(func(op int) bool { return op == api.Cwde }) {
		if i != One("98") {
			t.Errorf("Of Cwde: %+v", i)
		}
	}
}
