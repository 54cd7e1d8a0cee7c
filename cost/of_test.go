package cost_test

import (
	"math/rand"
	"slices"
	"strconv"
	"testing"

	"manciple/api"
	"manciple/cost"
	"manciple/lock"
	"manciple/repo"
	"manciple/sample"
)

func holdOf(t *testing.T, r repo.Repo, k lock.Lock, set []int, want ...int) {
	t.Helper()
	if got := cost.Of(r, k, set); !slices.Equal(got, want) {
		t.Errorf("Of %v: %v; want %v", set, got, want)
	}
}

// TestP1201Of: b, d and e are installed; of these r has b, and a and c besides.
func TestP1201Of(t *testing.T) {
	r, k := example()
	for _, c := range []struct {
		set  []int
		want []int
	}{
		{nil, []int{1, 1, 1, 0, 0, 4, 2, 1}},
		{[]int{0}, []int{1, 1, 1, 1, 0, 1, 2, 1}},
		{[]int{1}, []int{1, 1, 1, 1, 0, 2, 2, 1}},
		{[]int{2}, []int{1, 1, 1, 1, 0, 0, 2, 1}},
		{[]int{3}, []int{1, 1, 1, 1, 0, 3, 2, 1}},
		{[]int{4}, []int{0, 1, 1, 0, 0, 4, 1, 1}},
		{[]int{5}, []int{0, 1, 1, 0, 0, 4, 0, 1}},
		{[]int{6}, []int{1, 1, 1, 0, 1, 4, 2, 0}},
		{[]int{2, 4}, []int{0, 1, 1, 1, 0, 0, 1, 1}},
		{[]int{5, 6}, []int{0, 1, 1, 0, 1, 4, 0, 0}},
		{[]int{3, 5, 6}, []int{0, 1, 1, 1, 1, 3, 0, 0}},
	} {
		holdOf(t, r, k, c.set, c.want...)
	}
}

func TestP1201OfOtherLockfiles(t *testing.T) {
	r, _ := example()
	// nothing installed: every name is a new one
	holdOf(t, r, nil, nil, 0, 0, 0, 4, 2, 1)
	holdOf(t, r, nil, []int{1, 6}, 1, 0, 1, 2, 2, 0)
	// all installed: no name is a new one
	all := sample.Installed("a 9", "b 9", "c 9")
	holdOf(t, r, all, nil, 1, 1, 1, 4, 2, 1)
	holdOf(t, r, all, []int{1, 6}, 0, 1, 0, 2, 2, 0)
	// which version is installed makes no difference
	for _, v := range []string{"1", "2", "4", "0~1", "1:1"} {
		holdOf(t, r, sample.Installed("a "+v), []int{1}, 0, 0, 0, 2, 2, 1)
		holdOf(t, r, sample.Installed("a "+v), []int{5, 6}, 1, 1, 1, 4, 0, 0)
	}
	// names that r does not have stay where they stand in the lockfile
	holdOf(t, r, sample.Installed("a 1", "aa 1", "b 1", "z 1"), []int{2, 5}, 0, 1, 0, 1, 0, 0, 0, 1)
	holdOf(t, r, sample.Installed("aa 1", "c 1"), []int{6}, 1, 0, 0, 0, 4, 2, 0)
}

func TestP1201OfLittle(t *testing.T) {
	holdOf(t, nil, nil, nil)
	holdOf(t, repo.Repo{}, lock.Lock{}, []int{})
	holdOf(t, nil, sample.Installed("a 1", "b 1"), nil, 1, 1)
	holdOf(t, sample.Packages("a 1"), nil, nil, 0, 1)
	holdOf(t, sample.Packages("a 1"), nil, []int{0}, 1, 0)
	holdOf(t, sample.Packages("a 1"), sample.Installed("a 1"), nil, 1, 1)
	holdOf(t, sample.Packages("a 1"), sample.Installed("a 1"), []int{0}, 0, 0)
}

// TestP1201OfWhatIsProvided: no package has a name because it provides it.
func TestP1201OfWhatIsProvided(t *testing.T) {
	r := sample.Packages("a 1 / Provides: b; v = 1; z", "b 1 / Provides: a = 7")
	holdOf(t, r, sample.Installed("b 1", "v 1"), []int{0}, 1, 1, 1, 0, 1)
	holdOf(t, r, sample.Installed("a 1", "z 1"), []int{1}, 1, 1, 1, 1, 0)
}

// installed returns as many entries as may be, from the name p100 on.
func installed() lock.Lock {
	var k lock.Lock
	for i := range api.MaxPkgs {
		k = append(k, lock.Entry{Name: "p" + strconv.Itoa(100+i), Ver: "1"})
	}
	return k
}

func TestP1201OfAtTheLimits(t *testing.T) {
	n := api.MaxPkgs
	zeros, ones := make([]int, n), slices.Repeat([]int{1}, n)
	all := sample.Subset(-1, n)
	// each package has a name of its own
	holdOf(t, many(1), installed(), nil, slices.Concat(ones, ones)...)
	holdOf(t, many(1), installed(), all, slices.Concat(zeros, zeros)...)
	holdOf(t, many(1), nil, nil, slices.Concat(zeros, ones)...)
	holdOf(t, many(1), nil, all, slices.Concat(ones, zeros)...)
	// all packages have one name
	holdOf(t, many(n), nil, nil, 0, n)
	for i := range n {
		holdOf(t, many(n), nil, []int{i}, 1, i)
		holdOf(t, many(n), installed(), []int{i}, slices.Concat([]int{0}, ones[1:], []int{i})...)
	}
	holdOf(t, many(n), installed(), nil, slices.Concat(ones, []int{n})...)
}

// ofByItsWords does what P1201 says of Of, word by word.
func ofByItsWords(r repo.Repo, k lock.Lock, set []int) []int {
	ranks := ranksByTheirWords(r)
	has := func(name string) (int, bool) {
		i := slices.IndexFunc(set, func(number int) bool { return r[number].Name == name })
		if i < 0 {
			return len(repo.Named(r, name)), false
		}
		return ranks[set[i]], true
	}
	var kept, added, ranked []int
	for _, e := range k {
		if _, found := has(e.Name); found {
			kept = append(kept, 0)
		} else {
			kept = append(kept, 1)
		}
	}
	for _, name := range repo.Names(r) {
		rank, found := has(name)
		ranked = append(ranked, rank)
		if _, known := lock.Get(k, name); known {
			continue
		}
		if found {
			added = append(added, 1)
		} else {
			added = append(added, 0)
		}
	}
	return slices.Concat(kept, added, ranked)
}

// single tells whether each name is in the set at most once.
func single(r repo.Repo, set []int) bool {
	for i, number := range set {
		for _, other := range set[:i] {
			if r[other].Name == r[number].Name {
				return false
			}
		}
	}
	return true
}

// singles lists the sets that have each name at most once.
func singles(r repo.Repo) [][]int {
	var l [][]int
	for bits := range 1 << len(r) {
		if set := sample.Subset(bits, len(r)); single(r, set) {
			l = append(l, set)
		}
	}
	return l
}

func TestP1201OfByItsWords(t *testing.T) {
	random := rand.New(rand.NewSource(2))
	for range 2000 {
		r, k, _ := drawn(random)
		for _, set := range singles(r) {
			holdOf(t, r, k, set, ofByItsWords(r, k, set)...)
		}
	}
}

// TestP1201OfTellsSetsApart: by the ranks, which are all different for a name.
func TestP1201OfTellsSetsApart(t *testing.T) {
	random := rand.New(rand.NewSource(3))
	for range 500 {
		r, k, _ := drawn(random)
		sets := singles(r)
		for i, a := range sets {
			for j, b := range sets {
				one, two := cost.Of(r, k, a), cost.Of(r, k, b)
				if (cost.Compare(one, two) == 0) != (i == j) || len(one) != len(two) {
					t.Fatalf("Of %v: %v; of %v: %v", a, one, b, two)
				}
			}
		}
	}
}
