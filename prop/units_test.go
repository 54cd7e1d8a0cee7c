package prop_test

import (
	"math"
	"math/rand"
	"slices"
	"testing"

	"manciple/api"
	"manciple/cnf"
	"manciple/prop"
)

func holdUnits(t *testing.T, l []cnf.Clause, want ...int) {
	t.Helper()
	if got := prop.Units(l); !slices.Equal(got, want) {
		t.Errorf("Units(%s): %s; want %s", shown(l), shown(got), shown(want))
	}
}

func TestP1501Units(t *testing.T) {
	holdUnits(t, nil)
	holdUnits(t, []cnf.Clause{nil})
	holdUnits(t, []cnf.Clause{{}, {}})
	holdUnits(t, []cnf.Clause{{7}}, 7)
	holdUnits(t, []cnf.Clause{{-7}}, -7)
	// in the order of the clauses, each as often as it is there
	holdUnits(t, []cnf.Clause{{3}, {1, 2}, {}, {-1}, {3}}, 3, -1, 3)
	holdUnits(t, []cnf.Clause{{2}, {-2}, {1}, {-2}}, 2, -2, 1, -2)
	// a literal that is there twice counts twice here
	holdUnits(t, []cnf.Clause{{2, 2}, {1, -1}, {4}, {5, 5, 5}}, 4)
	// and what follows only does not count
	holdUnits(t, []cnf.Clause{{1}, {-1, 2}}, 1)
	// literals may be of any variables, as there is no count of these
	holdUnits(t, []cnf.Clause{{257}, {math.MaxInt}, {0}, {math.MinInt}}, 257, math.MaxInt, 0, math.MinInt)
	var l []cnf.Clause
	var want []int
	for i := range api.MaxClauses {
		if l = append(l, make(cnf.Clause, i%4)); i%4 == 1 {
			l[i][0] = -1 - i
			want = append(want, -1-i)
		}
	}
	holdUnits(t, l, want...)
}

// TestP1501UnitsFollow: Close finds them by itself.
func TestP1501UnitsFollow(t *testing.T) {
	random := rand.New(rand.NewSource(1504))
	for range 3000 {
		n, l, _ := drawn(random)
		want, contradicts := prop.Close(n, l, nil)
		holdOutcome(t, n, l, prop.Units(l), want, contradicts)
		for _, lit := range prop.Units(l) {
			if !contradicts && !slices.Contains(want, lit) {
				t.Errorf("Close(%d, %v, nil): %v without %d", n, l, want, lit)
			}
		}
	}
}
