package marks

import (
	"testing"

	"saltern/api"
)

func TestOf(t *testing.T) {
	for _, x := range []struct {
		letters string
		want    api.Flags
	}{
		{"", api.Flags{}}, {"C", api.Flags{C: true}}, {"P", api.Flags{P: true}}, {"Z", api.Flags{Z: true}},
		{"S", api.Flags{S: true}}, {"O", api.Flags{O: true}}, {"D", api.Flags{D: true}},
		{"OC", api.Flags{C: true, O: true}}, {"CPZSOD", api.Flags{C: true, P: true, Z: true, S: true, O: true, D: true}},
		{"c x", api.Flags{}},
	} {
		if got := Of(x.letters); got != x.want {
			t.Errorf("Of(%q): %+v", x.letters, got)
		}
	}
}

func TestAll(t *testing.T) {
	seen := map[api.Flags]bool{}
	for _, f := range All() {
		seen[f] = true
	}
	if all := All(); len(all) != 64 || len(seen) != 64 || all[0] != (api.Flags{}) {
		t.Errorf("All: %d, %d unlike ones, first %+v", len(all), len(seen), all[0])
	}
}
