package rup_test

import (
	"math"
	"math/rand"
	"slices"
	"testing"

	"manciple/api"
	"manciple/cnf"
	"manciple/rup"
	"manciple/sample"
)

func holdEnds(t *testing.T, n int, l, proof []cnf.Clause, c cnf.Clause, want bool) {
	t.Helper()
	if got := rup.Ends(n, l, proof, c); got != want {
		t.Errorf("Ends(%d, %s, %s, %s): %v; want %v", n, shown(l), shown(proof), shown(c), got, want)
	}
}

func TestP1601Ends(t *testing.T) {
	proof := []cnf.Clause{{1, 2}, {1}, {}}
	// the example of the chapter
	holdEnds(t, 2, four(), proof[1:], nil, true)
	holdEnds(t, 2, four(), proof[2:], nil, false)
	// each beginning ends with its last step, and with no other
	for i, step := range proof {
		for k, c := range proof {
			holdEnds(t, 2, four(), proof[:i+1], c, i == k)
		}
		holdEnds(t, 2, four(), proof[:i+1], slices.Clone(step), true)
		holdEnds(t, 2, four(), proof[:i+1], append(slices.Clone(step), 1), false)
	}
	holdEnds(t, 2, four(), append(proof, cnf.Clause{2}), nil, false)
	holdEnds(t, 2, four(), append(proof, cnf.Clause{2}), cnf.Clause{2}, true)
	holdEnds(t, 2, four(), append(proof, nil), nil, true)
}

func TestP1601EndsOfNoSteps(t *testing.T) {
	for _, proof := range [][]cnf.Clause{nil, {}, four()[:0]} {
		for _, c := range []cnf.Clause{nil, {}, {1}, {-1, -2}, {0}} {
			holdEnds(t, 2, nil, proof, c, false)
			holdEnds(t, 2, four(), proof, c, false)
			// also where the clauses end with it, or it follows from them
			holdEnds(t, 2, []cnf.Clause{c}, proof, c, false)
			holdEnds(t, 2, []cnf.Clause{{}, c}, proof, c, false)
		}
	}
}

// TestP1601EndsAsItStands: the last step and c are equal literal by literal, it
// is not enough that they say the same.
func TestP1601EndsAsItStands(t *testing.T) {
	l := []cnf.Clause{{1, 2}}
	for _, step := range []cnf.Clause{{1, 2}, {2, 1}, {1, 2, 2}, {2, 1, 1}, {1, 2, 1}, {1, 2, -3}, {3, -3}, {-3, 3}} {
		for _, c := range []cnf.Clause{{1, 2}, {2, 1}, {1, 2, 2}, {2, 1, 1}, {1, 2, 1}, {1, 2, -3}, {3, -3}, {-3, 3}, {1}, {2}, nil} {
			holdEnds(t, 3, l, []cnf.Clause{step}, c, slices.Equal(step, c))
		}
	}
	for _, empty := range []cnf.Clause{nil, {}, four()[0][:0]} {
		holdEnds(t, 3, []cnf.Clause{{}}, []cnf.Clause{nil}, empty, true)
		holdEnds(t, 3, []cnf.Clause{{}}, []cnf.Clause{{}}, empty, true)
		holdEnds(t, 3, []cnf.Clause{{}}, []cnf.Clause{four()[0][:0]}, empty, true)
	}
}

// TestP1601EndsWithErrors: the last step alone does not make it.
func TestP1601EndsWithErrors(t *testing.T) {
	long := slices.Repeat(cnf.Clause{1}, api.MaxClause+1)
	proof := []cnf.Clause{{1}, {}}
	holdEnds(t, 2, four(), proof, nil, true)
	for _, n := range []int{-1, 0, 1, api.MaxVars + 1, math.MaxInt, math.MinInt} {
		holdEnds(t, n, four(), proof, nil, false)
	}
	for _, wrong := range []cnf.Clause{{0}, {3}, {1, -3}, {math.MinInt}, long} {
		holdEnds(t, 2, append(four(), wrong), proof, nil, false)
		holdEnds(t, 2, four(), []cnf.Clause{wrong}, wrong, false)
		holdEnds(t, 2, four(), []cnf.Clause{wrong, {1}, {}}, nil, false)
		holdEnds(t, 2, four(), []cnf.Clause{{1}, {}, wrong}, wrong, false)
		holdEnds(t, 2, four(), proof, wrong, false)
	}
	holdEnds(t, 2, make([]cnf.Clause, api.MaxClauses+1), proof, nil, false)
	holdEnds(t, 3, four()[:3], proof, nil, false)
	holdEnds(t, 3, four(), []cnf.Clause{{3}, {1}, {}}, nil, false)
	holdEnds(t, 3, four()[:3], []cnf.Clause{{3}, {1}}, cnf.Clause{1}, false)
	holdEnds(t, 3, four()[:3], []cnf.Clause{{1}, {3}}, cnf.Clause{3}, false)
}

func TestP1601EndsByItsWords(t *testing.T) {
	random := rand.New(rand.NewSource(1606))
	told := map[bool]int{}
	for range 5000 {
		n, l := sample.DrawnClauses(random.Intn)
		proof := drawnProof(random, n, l)
		c := sample.Clause(random.Intn, 2, 1, n)
		if len(proof) > 0 && random.Intn(3) > 0 {
			c = proof[len(proof)-1-random.Intn(min(2, len(proof)))]
		}
		_, err := checkByItsWords(n, l, proof)
		want := err == api.OK && len(proof) > 0 && slices.Equal(proof[len(proof)-1], c)
		holdEnds(t, n, l, proof, c, want)
		told[want]++
	}
	if told[true] < 1000 || told[false] < 1000 {
		t.Errorf("what came up: %v", told)
	}
}
