// Package marks: flags as the tests of the layers write them.
package marks

import (
	"strings"

	"saltern/api"
)

// Of answers flags by the letters of those that are set: C, P, Z, S, O, D.
func Of(letters string) api.Flags {
	has := func(letter string) bool { return strings.Contains(letters, letter) }
	return api.Flags{C: has("C"), P: has("P"), Z: has("Z"), S: has("S"), O: has("O"), D: has("D")}
}

// All answers all the flags that can be there, none first, each set of them once.
func All() []api.Flags {
	var all []api.Flags
	for i := range 64 {
		all = append(all, api.Flags{C: i&1 != 0, P: i&2 != 0, Z: i&4 != 0, S: i&8 != 0, O: i&16 != 0, D: i&32 != 0})
	}
	return all
}
