package enc_test

import (
	"fmt"
	"math"
	"math/bits"
	"slices"
	"testing"

	"manciple/enc"
	"manciple/sample"
)

func holdModel(t *testing.T, set []int, n int, want ...bool) {
	t.Helper()
	if got := enc.Model(set, n); !slices.Equal(got, want) {
		t.Errorf("Model(%v, %d): %s; want %s", set, n, shown(got), shown(want))
	}
}

func holdSet(t *testing.T, m []bool, want ...int) {
	t.Helper()
	if got := enc.Set(m); !slices.Equal(got, want) {
		t.Errorf("Set(%s): %s; want %s", shown(m), shown(got), shown(want))
	}
}

func TestP1401Model(t *testing.T) {
	holdModel(t, nil, 0)
	holdModel(t, nil, 1, false)
	holdModel(t, []int{0}, 1, true)
	holdModel(t, nil, 3, false, false, false)
	holdModel(t, []int{0}, 3, true, false, false)
	holdModel(t, []int{1}, 3, false, true, false)
	holdModel(t, []int{2}, 3, false, false, true)
	holdModel(t, []int{0, 2}, 4, true, false, true, false)
	holdModel(t, []int{0, 1, 2}, 3, true, true, true)
	holdModel(t, []int{63}, 64, append(make([]bool, 63), true)...)
	holdModel(t, []int{1 << 20}, 1<<20+1, append(make([]bool, 1<<20), true)...)
}

// TestP1401ModelOfNone: what is no set of that many packages is refused (P9).
func TestP1401ModelOfNone(t *testing.T) {
	for _, set := range [][]int{{3}, {0, 3}, {-1}, {-1, 0}, {1, 0}, {1, 1}, {0, 2, 2}, {math.MaxInt}, {math.MinInt, 1}} {
		holdModel(t, set, 3)
	}
	holdModel(t, []int{0}, 0)
	for _, n := range []int{-1, -2, math.MinInt, math.MaxInt, math.MaxInt32 + 1, 1 << 48} {
		holdModel(t, nil, n)
		holdModel(t, []int{0}, n)
	}
}

func TestP1401Set(t *testing.T) {
	holdSet(t, nil)
	holdSet(t, []bool{false})
	holdSet(t, []bool{true}, 0)
	holdSet(t, []bool{true, false, true}, 0, 2)
	holdSet(t, []bool{false, false, true, false}, 2)
	holdSet(t, []bool{true, true, true}, 0, 1, 2)
	holdSet(t, append(make([]bool, 1<<20), true), 1<<20)
}

func TestP1401SetAndModelTurnEachOther(t *testing.T) {
	for n := range 11 {
		models := map[string]bool{}
		for b := range 1 << n {
			set := sample.Subset(b, n)
			m := enc.Model(set, n)
			if len(m) != n || len(set) != bits.OnesCount(uint(b)) {
				t.Fatalf("Model(%v, %d): %v", set, n, m)
			}
			holdSet(t, m, set...)
			models[fmt.Sprint(m)] = true
		}
		if len(models) != 1<<n {
			t.Errorf("of %d packages there are %d models", n, len(models))
		}
	}
}
