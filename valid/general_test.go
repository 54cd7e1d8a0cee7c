package valid_test

import (
	"math"
	"slices"
	"testing"

	"manciple/api"
	"manciple/ask"
	"manciple/lock"
	"manciple/repo"
	"manciple/rule"
	"manciple/sample"
	"manciple/valid"
)

var numbers = []int{0, 1, 2, 3, 4, 5, 6, -1, -2, 12, 13, 64, math.MaxInt, math.MinInt}

func TestP1SetsThatAreNone(t *testing.T) {
	r, l := sample.Mixed()
	for _, i := range numbers {
		for _, k := range numbers {
			set := []int{i, k}
			if valid.Broken(r, nil, l, set); !rule.Set(set, len(r)) && valid.Set(r, nil, l, set) {
				t.Errorf("Set of %v: true", set)
			}
			valid.Broken(nil, nil, nil, set)
			valid.Set(nil, nil, nil, set)
		}
	}
}

func TestP1AnyPackagesAndRequests(t *testing.T) {
	for _, g := range sample.Wild() {
		valid.Broken(g.Repo, g.Lock, g.Asks, g.Set)
		valid.Set(g.Repo, g.Lock, g.Asks, g.Set)
		valid.All(g.Repo, g.Lock, g.Asks, numbers)
	}
}

func TestP1ListsBeyondTheLimits(t *testing.T) {
	r := slices.Repeat(repo.Repo{{Name: "a", Ver: "1"}}, 2*api.MaxPkgs)
	l := slices.Repeat(sample.Requests("install b"), 4*api.MaxAsks)
	valid.Broken(r, nil, l, sample.Subset(-1, 63))
	valid.Set(r, nil, l, nil)
	holdAllError(t, r, nil, l, numbers, api.ErrMany)
	valid.All(r[:12], nil, l, numbers)
}

func TestP2ArgumentsStayAsTheyAre(t *testing.T) {
	r, l := sample.Mixed()
	all := []int{13, 0, 5, -1, 5, 99, 77, 77}
	rules := slices.Clone(all)
	for bits := range 1 << len(r) {
		g := sample.Given{Repo: r, Lock: sample.Installed("a 1", "z 5"), Asks: l, Set: sample.Subset(bits, len(r))}.Spaced()
		before := g.Stretched()
		valid.Broken(g.Repo, g.Lock, g.Asks, g.Set)
		valid.Set(g.Repo, g.Lock, g.Asks, g.Set)
		valid.All(g.Repo, g.Lock, g.Asks, rules[:6])
		if after := g.Stretched(); !sample.Same(after, before) {
			t.Fatalf("%v is now %v", before, after)
		}
		if !slices.Equal(rules, all) {
			t.Fatalf("the numbers are now %v", rules)
		}
	}
}

func TestP2ResultsAreNewMemory(t *testing.T) {
	r, l := example()
	set := []int{0, 1, 2, 3, 4}
	one, two := valid.Broken(r, nil, l, set), valid.Broken(r, nil, l, set)
	sample.Spill(one, -9)
	if !slices.Equal(two, []int{0, 1, 5}) || !slices.Equal(set, []int{0, 1, 2, 3, 4}) {
		t.Errorf("Broken: %v of %v, though only another result was written over", two, set)
	}
	want := [][]int{{0, 2}, {0, 3}, {1, 3}, {0, 2, 4}}
	sets, _ := valid.All(r, nil, l, every(r, l))
	for i := range sets {
		sample.Spill(sets[i], -9)
	}
	sample.Spill(sets, nil)
	holdAll(t, r, nil, l, every(r, l), want...)
}

func TestP2SetsOfOneResultShareNoMemory(t *testing.T) {
	r := numbered(6)
	for i := range 1 << 6 {
		sets, _ := valid.All(r, nil, nil, nil)
		sample.Spill(sets[i], -9)
		for k, other := range sets {
			if k != i && !slices.Equal(other, sample.Subset(k, 6)) {
				t.Fatalf("All: set %d is %v after set %d was written over", k, other, i)
			}
		}
	}
}

func TestP2NilIsAsEmpty(t *testing.T) {
	r, l := example()
	holdBroken(t, r, nil, l, nil, 6)
	holdBroken(t, r, lock.Lock{}, l, []int{}, 6)
	holdBroken(t, r, nil, nil, nil)
	holdBroken(t, r, lock.Lock{}, []ask.Ask{}, []int{})
	holdAll(t, r[:1], nil, nil, nil, nil, []int{0})
	holdAll(t, r[:1], lock.Lock{}, []ask.Ask{}, []int{}, nil, []int{0})
	holdAll(t, repo.Repo{}, lock.Lock{}, []ask.Ask{}, []int{}, nil)
}

func TestP3SameCallsSameResults(t *testing.T) {
	r, l := sample.Mixed()
	k := sample.Installed("a 1")
	rules := []int{3, 10, 4}
	sets, err := valid.All(r, k, l, rules)
	if err != api.OK || len(sets) == 0 || len(sets) == 1<<len(r) {
		t.Fatalf("All: %s, %v", shown(sets), err)
	}
	broken := valid.Broken(r, k, l, []int{0, 1, 2})
	for range 3 {
		holdAllError(t, numbered(13), k, l, rules, api.ErrMany) // what is refused leaves nothing behind (P5)
		holdAll(t, r, k, l, rules, sets...)
		holdBroken(t, r, k, l, []int{0, 1, 2}, broken...)
	}
}
