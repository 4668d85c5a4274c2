package cond

import (
	"math"
	"strings"
	"testing"

	"saltern/api"
	"saltern/arith"
	"saltern/marks"
)

// conditions: each one with its name, the flags that it looks at, and the sets of these of which it holds ("-": none of them).
var conditions = []struct {
	name, looks, holds string
}{
	{"o", "O", "O"},
	{"no", "O", "-"},
	{"b", "C", "C"},
	{"ae", "C", "-"},
	{"e", "Z", "Z"},
	{"ne", "Z", "-"},
	{"be", "CZ", "C Z CZ"},
	{"a", "CZ", "-"},
	{"s", "S", "S"},
	{"ns", "S", "-"},
	{"p", "P", "P"},
	{"np", "P", "-"},
	{"l", "SO", "S O"},
	{"ge", "SO", "- SO"},
	{"le", "ZSO", "S O Z ZS ZO ZSO"},
	{"g", "ZSO", "- SO"},
}

// wrong: numbers of no condition: about the ends, far from them, and ones that would pass for a condition by some of their bits.
func wrong() []int {
	all := []int{math.MaxInt, math.MaxInt - 1}
	for c := -100; c < 100; c++ {
		if c < 0 || c > 15 {
			all = append(all, c)
		}
	}
	for c := range 16 {
		all = append(all, c+1<<8, c-1<<8, c+1<<16, c+1<<31, c-1<<31, c+1<<32, c-1<<32, c+1<<62, c+math.MinInt)
	}
	return all
}

// letters answers which of these letters' flags are set, "-" for none.
func letters(f api.Flags, looks string) string {
	var set string
	for _, x := range []struct {
		letter string
		set    bool
	}{{"C", f.C}, {"P", f.P}, {"Z", f.Z}, {"S", f.S}, {"O", f.O}, {"D", f.D}} {
		if x.set && strings.Contains(looks, x.letter) {
			set += x.letter
		}
	}
	if set == "" {
		return "-"
	}
	return set
}

func among(set, sets string) bool {
	for _, x := range strings.Fields(sets) {
		if x == set {
			return true
		}
	}
	return false
}

func TestHoldsByTheSetsOfFlags(t *testing.T) {
	for c, x := range conditions {
		held, not := 0, 0
		for _, f := range marks.All() {
			want := among(letters(f, x.looks), x.holds)
			if Holds(c, f) != want {
				t.Errorf("P5.1: Holds(%d, %+v): %v", c, f, !want)
			}
			if want {
				held++
			} else {
				not++
			}
		}
		if held == 0 || not == 0 {
			t.Errorf("the test's own table: %s holds of %d flags, and not of %d", x.name, held, not)
		}
	}
}

func TestHoldsByHand(t *testing.T) {
	for _, x := range []struct {
		flags string
		holds []int
	}{
		{"", []int{1, 3, 5, 7, 9, 11, 13, 15}},
		{"O", []int{0, 3, 5, 7, 9, 11, 12, 14}},
		{"C", []int{1, 2, 5, 6, 9, 11, 13, 15}},
		{"Z", []int{1, 3, 4, 6, 9, 11, 13, 14}},
		{"S", []int{1, 3, 5, 7, 8, 11, 12, 14}},
		{"P", []int{1, 3, 5, 7, 9, 10, 13, 15}},
		{"D", []int{1, 3, 5, 7, 9, 11, 13, 15}},
		{"CZ", []int{1, 2, 4, 6, 9, 11, 13, 14}},
		{"SO", []int{0, 3, 5, 7, 8, 11, 13, 15}},
		{"ZSO", []int{0, 3, 4, 6, 8, 11, 13, 14}},
		{"CSP", []int{1, 2, 5, 6, 8, 10, 12, 14}},
		{"ZPC", []int{1, 2, 4, 6, 9, 10, 13, 14}},
		{"CPZSO", []int{0, 2, 4, 6, 8, 10, 13, 14}},
		{"CPZSOD", []int{0, 2, 4, 6, 8, 10, 13, 14}},
	} {
		want := map[int]bool{}
		for _, c := range x.holds {
			want[c] = true
		}
		for c := range 16 {
			if got := Holds(c, marks.Of(x.flags)); got != want[c] {
				t.Errorf("P5.1: Holds(%d, %s): %v", c, x.flags, got)
			}
		}
	}
}

// Behind a less b the conditions say by their names how a and b stand to each other, with signs and without.
func TestHoldsBehindASub(t *testing.T) {
	for v := range 1 << 16 {
		a, b := uint8(v>>8), uint8(v)
		sa, sb := int8(a), int8(b)
		rest, f := arith.Sub(uint32(a), uint32(b), 1, false)
		over := int(sa)-int(sb) != int(int8(rest))
		for c, want := range []bool{
			over, !over, a < b, a >= b, a == b, a != b, a <= b, a > b,
			int8(rest) < 0, int8(rest) >= 0, arith.Parity(rest), !arith.Parity(rest), sa < sb, sa >= sb, sa <= sb, sa > sb,
		} {
			if Holds(c, f) != want {
				t.Fatalf("P5.1: behind %d less %d Holds(%d, %+v): %v", a, b, c, f, !want)
			}
		}
	}
}

func TestOppositesAreBesideEachOther(t *testing.T) {
	for c := 0; c < 16; c += 2 {
		for _, f := range marks.All() {
			if Holds(c, f) == Holds(c+1, f) {
				t.Errorf("P5.2: %d and %d of %+v: both %v", c, c+1, f, Holds(c, f))
			}
		}
	}
}

func TestName(t *testing.T) {
	for c, x := range conditions {
		if got := Name(c); got != x.name {
			t.Errorf("P5.1: Name(%d): %q, not %q", c, got, x.name)
		}
	}
}

func TestWrongConditions(t *testing.T) {
	for _, c := range wrong() {
		if got := Name(c); got != "" {
			t.Errorf("P5.1: Name(%d): %q", c, got)
		}
		for _, f := range marks.All() {
			if Holds(c, f) {
				t.Errorf("P5.1: Holds(%d, %+v): true", c, f)
			}
		}
	}
}
