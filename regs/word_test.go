package regs_test

import (
	"testing"

	"saltern/api"
	"saltern/marks"
	"saltern/regs"
)

// weights: what each flag, and the bit that is always set, adds to a word.
const (
	weightC = 1
	always  = 2
	weightP = 4
	weightZ = 64
	weightS = 128
	weightD = 1024
	weightO = 2048
)

// word answers f as a sum.
func word(f api.Flags) uint32 {
	sum := uint32(always)
	for _, x := range []struct {
		set    bool
		weight uint32
	}{{f.C, weightC}, {f.P, weightP}, {f.Z, weightZ}, {f.S, weightS}, {f.D, weightD}, {f.O, weightO}} {
		if x.set {
			sum += x.weight
		}
	}
	return sum
}

func TestWordByHand(t *testing.T) {
	for _, x := range []struct {
		letters string
		want    uint32
	}{
		{"", 0x2}, {"C", 0x3}, {"P", 0x6}, {"Z", 0x42}, {"S", 0x82}, {"D", 0x402}, {"O", 0x802}, {"CPZSOD", 0xcc7}, {"ZP", 0x46}, {"CSP", 0x87}, {"OD", 0xc02},
	} {
		if got := regs.Word(marks.Of(x.letters)); got != x.want {
			t.Errorf("P13.2: Word of %q: %#x, not %#x", x.letters, got, x.want)
		}
	}
}

func TestWord(t *testing.T) {
	for _, f := range marks.All() {
		if got := regs.Word(f); got != word(f) {
			t.Errorf("P13.2: Word(%+v): %#x, not %#x", f, got, word(f))
		}
	}
}

// others: numbers of which a word of flags has no bit, but for the one that is always set: each bit, each row of bits, all of them.
func others() []uint32 {
	const flags = weightC | weightP | weightZ | weightS | weightD | weightO
	all := []uint32{0, 0xaaaaaaaa &^ flags, 0x55555555 &^ flags, 0xfffff000, ^uint32(flags)}
	for at := range 32 {
		for _, v := range []uint32{1 << at, 1<<at - 1, ^uint32(1 << at)} {
			all = append(all, v&^flags)
		}
	}
	return all
}

func TestFromWordByHand(t *testing.T) {
	for at, letter := range map[int]string{0: "C", 2: "P", 6: "Z", 7: "S", 10: "D", 11: "O"} {
		if got := regs.FromWord(1 << at); got != marks.Of(letter) {
			t.Errorf("P13.2: FromWord of the bit %d: %+v", at, got)
		}
	}
	for _, v := range others() {
		if got := regs.FromWord(v); got != (api.Flags{}) {
			t.Errorf("P13.2: FromWord(%#x): %+v", v, got)
		}
	}
}

// The other bits of a word say nothing, whatever they are.
func TestFromWord(t *testing.T) {
	for _, f := range marks.All() {
		for _, v := range others() {
			if got := regs.FromWord(word(f) | v); got != f {
				t.Errorf("P13.2: FromWord(%#x): %+v, not %+v", word(f)|v, got, f)
			}
			if got := regs.FromWord(word(f) - always | v); got != f {
				t.Errorf("P13.2: FromWord(%#x): %+v, not %+v", word(f)-always|v, got, f)
			}
		}
	}
}

func TestThereAndBack(t *testing.T) {
	for _, f := range marks.All() {
		if got := regs.FromWord(regs.Word(f)); got != f {
			t.Errorf("P13.2: FromWord of Word(%+v): %+v", f, got)
		}
	}
	for v := range uint32(1 << 16) {
		if got, want := regs.Word(regs.FromWord(v)), v&0xcc5|2; got != want {
			t.Errorf("P13.2: Word of FromWord(%#x): %#x, not %#x", v, got, want)
		}
		if got, want := regs.Word(regs.FromWord(v<<16|0x5a5a)), uint32(0x5a5a&0xcc5|2); got != want {
			t.Errorf("P13.2: Word of FromWord(%#x): %#x, not %#x", v<<16|0x5a5a, got, want)
		}
	}
}
