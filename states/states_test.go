package states

import (
	"encoding/binary"
	"math"
	"testing"

	"saltern/api"
)

func TestFull(t *testing.T) {
	s := Full()
	var r, x []byte
	for k := range 8 {
		r = binary.LittleEndian.AppendUint32(r, s.R[k])
		x = binary.LittleEndian.AppendUint64(x, s.X[k])
	}
	for _, row := range [][]byte{r, x} {
		seen := map[byte]int{}
		for _, b := range row {
			seen[b]++
		}
		if len(seen) != len(row) {
			t.Errorf("Full: %d unlike bytes of %d", len(seen), len(row))
		}
	}
	if s.F != (api.Flags{C: true, Z: true, O: true, D: true}) || s.IP != 0x12345678 {
		t.Errorf("Full: %+v", s)
	}
}

func TestAll(t *testing.T) {
	all := All()
	if len(all) != 4 || all[0] != Full() || all[2] != (api.State{}) {
		t.Fatalf("All: %+v", all)
	}
	full, opposite, ones := all[0], all[1], all[3]
	f := full.F
	if opposite.IP != ^full.IP || opposite.F != (api.Flags{C: !f.C, P: !f.P, Z: !f.Z, S: !f.S, O: !f.O, D: !f.D}) {
		t.Errorf("All: the opposite is %+v", opposite)
	}
	if ones.IP != math.MaxUint32 || ones.F != (api.Flags{C: true, P: true, Z: true, S: true, O: true, D: true}) {
		t.Errorf("All: all ones is %+v", ones)
	}
	for k := range 8 {
		if opposite.R[k] != ^full.R[k] || opposite.X[k] != ^full.X[k] || ones.R[k] != math.MaxUint32 || ones.X[k] != math.MaxUint64 {
			t.Errorf("All: the registers %d are %#x, %#x", k, []uint32{opposite.R[k], ones.R[k]}, []uint64{opposite.X[k], ones.X[k]})
		}
	}
}
