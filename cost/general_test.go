package cost_test

import (
	"math"
	"slices"
	"testing"

	"manciple/api"
	"manciple/cost"
	"manciple/lock"
	"manciple/repo"
	"manciple/sample"
)

var numbers = []int{0, 1, 2, 3, 4, 5, 6, 7, -1, -2, 64, math.MaxInt, math.MinInt}

func TestP1SetsThatAreNone(t *testing.T) {
	r, k := example()
	for _, i := range numbers {
		for _, j := range numbers {
			set := []int{i, j}
			cost.Of(r, k, set)
			cost.Of(nil, k, set)
			cost.Of(r, nil, set)
			cost.Best(r, k, [][]int{set, nil, set})
			cost.Best(nil, nil, [][]int{set})
		}
	}
}

func TestP1AnyPackagesAndEntries(t *testing.T) {
	for _, g := range sample.Wild() {
		cost.Ranks(g.Repo)
		cost.Of(g.Repo, g.Lock, g.Set)
		cost.Best(g.Repo, g.Lock, [][]int{g.Set, nil, numbers})
	}
}

func TestP1ListsBeyondTheLimits(t *testing.T) {
	r := slices.Repeat(repo.Repo{{Name: "a", Ver: "1", Weight: math.NaN()}, {Name: "b"}}, 2*api.MaxPkgs)
	k := slices.Repeat(lock.Lock{{Name: "b"}, {Name: "a", Ver: "1"}}, 2*api.MaxPkgs)
	cost.Ranks(r)
	cost.Of(r, k, sample.Subset(-1, 63))
	cost.Best(r, k, [][]int{nil, numbers, {127}, sample.Subset(-1, 63)})
	cost.Compare(make([]int, 1<<20), make([]int, 1<<20+1))
}

// spaced returns a copy of l with numbers in the room beyond its end.
func spaced(l []int) []int { return append(slices.Clone(l), -7, -7)[:len(l)] }

func TestP2ArgumentsStayAsTheyAre(t *testing.T) {
	r, k := example()
	for _, set := range append(singles(r), []int{6, 4, 4, -1, 0}) { // the last one is no set (P8)
		g := sample.Given{Repo: r, Lock: k, Set: set}.Spaced()
		before := g.Stretched()
		sets := [][]int{g.Set, spaced([]int{4, 6}), nil, {0}}[:3]
		cost.Ranks(g.Repo)
		cost.Of(g.Repo, g.Lock, g.Set)
		cost.Best(g.Repo, g.Lock, sets)
		if after := g.Stretched(); !sample.Same(after, before) {
			t.Fatalf("%v is now %v", before, after)
		}
		if other := sets[1][:4]; !slices.Equal(other, []int{4, 6, -7, -7}) || !slices.Equal(sets[:4][3], []int{0}) {
			t.Fatalf("of the sets %v is left", sets[:4])
		}
	}
	a, b := spaced([]int{1, 3}), spaced([]int{1, 2})
	cost.Compare(a, b)
	if !slices.Equal(a[:4], []int{1, 3, -7, -7}) || !slices.Equal(b[:4], []int{1, 2, -7, -7}) {
		t.Errorf("the costs are now %v and %v", a[:4], b[:4])
	}
}

func TestP2ResultsAreNewMemory(t *testing.T) {
	r, k := example()
	set := []int{3, 5, 6}
	ranks, one := cost.Ranks(r), cost.Of(r, k, set)
	other := cost.Of(r, k, set)
	sample.Spill(ranks, -9)
	sample.Spill(one, -9)
	if want := []int{0, 1, 1, 1, 1, 3, 0, 0}; !slices.Equal(other, want) || !slices.Equal(set, []int{3, 5, 6}) {
		t.Errorf("Of %v: %v, though only other results were written over", set, other)
	}
	holdRanks(t, r, 1, 2, 0, 3, 1, 0, 0)
	holdOf(t, r, k, set, other...)
}

func TestP2NilIsAsEmpty(t *testing.T) {
	r, k := example()
	holdOf(t, r, lock.Lock{}, []int{}, cost.Of(r, nil, nil)...)
	holdOf(t, repo.Repo{}, k, []int{}, cost.Of(nil, k, nil)...)
	holdBest(t, r, lock.Lock{}, [][]int{{}, {0}}, 0, true)
	holdBest(t, r, nil, [][]int{nil, {0}}, 0, true)
}

func TestP3SameCallsSameResults(t *testing.T) {
	r, k := example()
	sets := singles(r)
	best, _ := cost.Best(r, k, sets)
	for range 20 {
		cost.Best(nil, k, [][]int{numbers})
		holdRanks(t, r, 1, 2, 0, 3, 1, 0, 0)
		for _, set := range sets {
			holdOf(t, r, k, set, ofByItsWords(r, k, set)...)
		}
		holdBest(t, r, k, sets, best, true)
	}
	if want := slices.IndexFunc(sets, func(set []int) bool { return slices.Equal(set, []int{5}) }); best != want {
		t.Errorf("Best of all sets: %v", sets[best])
	}
}
