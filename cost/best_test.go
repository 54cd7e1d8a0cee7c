package cost_test

import (
	"math/rand"
	"slices"
	"testing"

	"manciple/api"
	"manciple/cost"
	"manciple/lock"
	"manciple/repo"
	"manciple/rule"
	"manciple/sample"
	"manciple/valid"
)

func holdBest(t *testing.T, r repo.Repo, k lock.Lock, sets [][]int, want int, found bool) {
	t.Helper()
	if i, ok := cost.Best(r, k, sets); i != want || ok != found {
		t.Errorf("Best of %.200v: %d, %v; want %d, %v", sets, i, ok, want, found)
	}
}

func TestP1201Best(t *testing.T) {
	r, k := example()
	for _, c := range []struct {
		sets [][]int
		want int
	}{
		{[][]int{nil}, 0},
		{[][]int{{0, 4, 6}}, 0},
		// what is installed stays
		{[][]int{nil, {5}}, 1},
		{[][]int{nil, {0, 4, 6}}, 1},
		// nothing new comes
		{[][]int{{2, 5}, {4}, {6, 5}}, 1},
		// of the new names the first one comes last
		{[][]int{{2, 5}, {5, 6}, {2, 5, 6}}, 1},
		// each name in the order of the ranks
		{[][]int{{4}, {5}}, 1},
		{[][]int{{0, 4}, {1, 4}, {2, 4}, {3, 4}}, 2},
		{[][]int{{3, 4}, {1, 4}}, 1},
		// the rank of the first name decides
		{[][]int{{0, 5}, {2, 4}}, 1},
		// the first one of equal ones
		{[][]int{{0}, {0}}, 0},
		{[][]int{{3}, {2}, {1}, {2}, {2}}, 1},
		{[][]int{{5}, {4}, {5}}, 0},
		{[][]int{nil, {}, nil}, 0},
	} {
		holdBest(t, r, k, c.sets, c.want, true)
	}
}

func TestP1201BestOfNoSets(t *testing.T) {
	r, k := example()
	holdBest(t, r, k, nil, 0, false)
	holdBest(t, r, k, [][]int{}, 0, false)
	holdBest(t, nil, nil, nil, 0, false)
	holdBest(t, nil, nil, [][]int{nil}, 0, true)
	holdBest(t, nil, sample.Installed("a 1"), [][]int{nil, {}}, 0, true)
}

func TestP1201BestAtTheLimits(t *testing.T) {
	n := api.MaxPkgs
	var sets [][]int
	for i := range n {
		sets = append(sets, []int{n - 1 - i})
	}
	holdBest(t, many(n), installed(), sets, n-1, true)
	holdBest(t, many(n), nil, sets, n-1, true)
	holdBest(t, many(n), nil, append(sets, nil), n, true)
	holdBest(t, many(n), installed(), append(sets, nil), n-1, true)
	// so many sets that each of them must be quick
	lot := slices.Repeat([][]int{sample.Subset(-1, n), sample.Subset(-2, n)}, 1<<13)
	holdBest(t, many(1), nil, lot, 1, true)
	holdBest(t, many(1), installed(), lot, 0, true)
	holdBest(t, many(n), nil, slices.Repeat([][]int{{n - 1}, {1}}, 1<<13), 1, true)
}

// bestByItsWords does what P1201 says of Best, word by word.
func bestByItsWords(r repo.Repo, k lock.Lock, sets [][]int) (int, bool) {
	for i, set := range sets {
		less := func(other []int) bool { return cost.Compare(cost.Of(r, k, other), cost.Of(r, k, set)) < 0 }
		if !slices.ContainsFunc(sets, less) {
			return i, true
		}
	}
	return 0, false
}

func TestP1201BestByItsWords(t *testing.T) {
	random := rand.New(rand.NewSource(4))
	for range 2000 {
		r, k, _ := drawn(random)
		all := singles(r)
		var sets [][]int
		for range random.Intn(8) {
			sets = append(sets, all[random.Intn(len(all))])
		}
		want, found := bestByItsWords(r, k, sets)
		holdBest(t, r, k, sets, want, found)
	}
}

// TestT2NoValidSetCostsLess holds each valid set of drawn repositories against
// the best one.
func TestT2NoValidSetCostsLess(t *testing.T) {
	random := rand.New(rand.NewSource(5))
	several := 0
	for range 1000 {
		r, k, l := drawn(random)
		sets, err := valid.All(r, k, l, sample.Subset(-1, len(rule.All(r, l))))
		if err != api.OK {
			t.Fatal(err)
		}
		best, found := cost.Best(r, k, sets)
		if found != (len(sets) > 0) {
			t.Fatalf("Best of %v: %v", sets, found)
		}
		for i, set := range sets {
			if order := cost.Compare(cost.Of(r, k, sets[best]), cost.Of(r, k, set)); order > 0 || (order == 0) != (i == best) {
				t.Errorf("Best of %v: %d, which costs %v; %v costs %v", sets, best, cost.Of(r, k, sets[best]), set, cost.Of(r, k, set))
			}
		}
		if len(sets) > 1 {
			several++
		}
	}
	if several < 200 {
		t.Errorf("only %d times were there several valid sets", several)
	}
}
