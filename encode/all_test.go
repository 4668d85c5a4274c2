package encode_test

import (
	"math/rand"
	"slices"
	"testing"

	"saltern/api"
	"saltern/decode"
	"saltern/encode"
)

// inRow asks that All answer the bytes of all, one behind another, and that they be read again in order.
func inRow(t *testing.T, l []api.Instr) {
	t.Helper()
	b, err := encode.All(l...)
	if err != api.OK {
		t.Fatalf("P11.1: All of %d: %d", len(l), err)
	}
	var want []byte
	var read []api.Instr
	for _, i := range l {
		row := written(t, i)
		i.Len = len(row)
		want, read = append(want, row...), append(read, i)
	}
	if !slices.Equal(b, want) {
		t.Fatalf("P11.1: All of %d: % x, not % x", len(l), b, want)
	}
	if got, at, err := decode.All(b); !slices.Equal(got, read) || at != 0 || err != api.OK {
		t.Fatalf("P11.2: All of %d: % x, which are read otherwise: %d, %d", len(l), b, at, err)
	}
}

// inVain asks that All refuse.
func inVain(t *testing.T, l ...api.Instr) {
	t.Helper()
	if b, err := encode.All(l...); len(b) != 0 || err != api.ErrInstr {
		t.Fatalf("P11.1: All of %d, of which one is none: % x, %d", len(l), b, err)
	}
}

func TestAllOfNone(t *testing.T) {
	for _, l := range [][]api.Instr{nil, {}, make([]api.Instr, 0, 4)} {
		if b, err := encode.All(l...); len(b) != 0 || err != api.OK {
			t.Errorf("P11.1: All of none: % x, %d", b, err)
		}
	}
	if b, err := encode.All(); len(b) != 0 || err != api.OK {
		t.Errorf("P11.1: All of none: % x, %d", b, err)
	}
}

func TestAllByHand(t *testing.T) {
	b, err := encode.All(ins(api.Nop, 0), ins(api.Push, 4, imm(0x80)), on(3, ins(api.Cmov, 4, reg(1), reg(2))), rep(ins(api.Movs, 4)), ins(api.Ret, 0))
	if want := []byte("\x90\x68\x80\x00\x00\x00\x0f\x43\xca\xf3\xa5\xc3"); !slices.Equal(b, want) || err != api.OK {
		t.Errorf("P11.1: All: % x, %d, not % x", b, err, want)
	}
}

func TestAllOfOne(t *testing.T) {
	for _, i := range charted().kinds() {
		inRow(t, []api.Instr{i})
	}
}

func TestAllOfManyKinds(t *testing.T) {
	kinds := charted().kinds()
	inRow(t, kinds)
	picks := rand.New(rand.NewSource(11))
	for range 2000 {
		l := make([]api.Instr, picks.Intn(30))
		for k := range l {
			l[k] = kinds[picks.Intn(len(kinds))]
			l[k].Len = picks.Intn(20) - 2
		}
		inRow(t, l)
	}
	inRow(t, slices.Repeat([]api.Instr{ins(api.Nop, 0)}, 1<<16))
}

// One or several that are none, at the beginning, in the middle, at the end.
func TestAllWithOneThatIsNone(t *testing.T) {
	kinds := charted().kinds()
	wrong := []api.Instr{{}, {Op: api.Ops}, ins(api.Nop, 4), ins(api.Lea, 4, reg(0), reg(1)), ins(api.Ret, 0, imm(65536)), ins(api.Mov, 4, mem(0, -1, 1, 0), mem(0, -1, 1, 0)), rep(ins(api.Lods, 1)), on(16, ins(api.Jcc, 0, imm(0)))}
	for _, none := range wrong {
		inVain(t, none)
		inVain(t, none, none)
		for at := range 8 {
			inVain(t, slices.Insert(slices.Clone(kinds[:7]), at, none)...)
			inVain(t, slices.Insert(slices.Clone(kinds[:7]), at, wrong...)...)
		}
		inVain(t, append([]api.Instr{none}, kinds...)...)
		inVain(t, append(slices.Clone(kinds), none)...)
		inVain(t, slices.Insert(slices.Clone(kinds), len(kinds)/2, none)...)
	}
}

// The list is neither changed nor kept, the room behind it included, and each answer is memory of its own.
func TestAllAnswersNewMemory(t *testing.T) {
	l := charted().kinds()
	before := slices.Clone(l)
	b, _ := encode.All(l[:len(l)/2]...)
	want := slices.Clone(b)
	other, _ := encode.All(l[:len(l)/2]...)
	clear(other[:cap(other)])
	if !slices.Equal(l, before) {
		t.Fatal("P11.1: All changed its list")
	}
	clear(l)
	if again, _ := encode.All(before[:len(l)/2]...); !slices.Equal(b, want) || !slices.Equal(again, want) {
		t.Fatal("P11.1: two answers of All, or an answer and the list, share memory")
	}
}
