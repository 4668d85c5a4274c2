// Package states: states of a machine as the tests of the layers write them.
package states

import (
	"math"

	"saltern/api"
	"saltern/marks"
)

// Full answers a state in which each byte is unlike all others of its kind, and no two flags beside each other are alike.
func Full() api.State {
	return api.State{
		R:  [8]uint32{0x04030201, 0x18171615, 0x2c2b2a29, 0x3f3e3d3c, 0x84838281, 0x98979695, 0xacabaaa9, 0xffbebdbc},
		IP: 0x12345678,
		F:  marks.Of("CZOD"),
		X: [8]uint64{
			0x0807060504030201, 0x1817161514131211, 0x2827262524232221, 0x3837363534333231,
			0x8887868584838281, 0x9897969594939291, 0xa8a7a6a5a4a3a2a1, 0xf8f7f6f5f4f3f2f1,
		},
	}
}

// All answers Full, its opposite in each bit, all noughts, all ones.
func All() []api.State {
	s, opposite, ones := Full(), Full(), Full()
	opposite.IP, opposite.F = ^s.IP, marks.Of("PS")
	ones.IP, ones.F = math.MaxUint32, marks.Of("CPZSOD")
	for r := range 8 {
		opposite.R[r], opposite.X[r] = ^s.R[r], ^s.X[r]
		ones.R[r], ones.X[r] = math.MaxUint32, math.MaxUint64
	}
	return []api.State{s, opposite, {}, ones}
}
