package valid_test

import (
	"math/rand"
	"slices"
	"testing"

	"manciple/api"
	"manciple/ask"
	"manciple/lock"
	"manciple/repo"
	"manciple/rule"
	"manciple/sample"
	"manciple/valid"
)

// example returns the packages and the request of the chapter's example. Its
// rules are: 0, 1, 2 only one a, b, c; 3 a 1 needs b; 4 a 2 needs b (> 1);
// 5 b 2 refuses c; 6 asked install a.
func example() (repo.Repo, []ask.Ask) {
	return sample.Packages(
		"a 1 / Depends: b",
		"a 2 / Depends: b (> 1)",
		"b 1",
		"b 2 / Conflicts: c",
		"c 1",
	), sample.Requests("install a")
}

// holdBroken tells whether Broken lists these rules, and Set what follows of it.
func holdBroken(t *testing.T, r repo.Repo, k lock.Lock, l []ask.Ask, set []int, want ...int) {
	t.Helper()
	if got := valid.Broken(r, k, l, set); !slices.Equal(got, want) {
		t.Errorf("Broken of %v: %v; want %v", set, got, want)
	}
	if got := valid.Set(r, k, l, set); got != (len(want) == 0) {
		t.Errorf("Set of %v: %v, though the rules %v are broken", set, got, want)
	}
}

func TestP1101BrokenAndSetOfTheExample(t *testing.T) {
	r, l := example()
	for _, c := range []struct {
		set  []int
		want []int
	}{
		{nil, []int{6}},
		{[]int{0}, []int{3}},
		{[]int{1}, []int{4}},
		{[]int{0, 1}, []int{0, 3, 4}},
		{[]int{2}, []int{6}},
		{[]int{0, 2}, nil},
		{[]int{1, 2}, []int{4}},
		{[]int{0, 1, 2}, []int{0, 4}},
		{[]int{0, 3}, nil},
		{[]int{1, 3}, nil},
		{[]int{0, 1, 3}, []int{0}},
		{[]int{2, 3}, []int{1, 6}},
		{[]int{0, 4}, []int{3}},
		{[]int{0, 2, 4}, nil},
		{[]int{3, 4}, []int{5, 6}},
		{[]int{1, 3, 4}, []int{5}},
		{[]int{0, 1, 2, 3, 4}, []int{0, 1, 5}},
	} {
		holdBroken(t, r, nil, l, c.set, c.want...)
	}
}

func TestP1101BrokenAndSetOfEachRequest(t *testing.T) {
	r := sample.Packages("a 1", "a 2", "b 1 / Provides: v")
	l := sample.Requests("upgrade a", "install v", "remove b", "pin a (= 1)", "upgrade a")
	// rules: 0, 1 only one a, b; 2 to 6 the requests
	k := sample.Installed("a 1")
	holdBroken(t, r, k, l, nil, 2, 3, 6)
	holdBroken(t, r, k, l, []int{0}, 2, 3, 6)
	holdBroken(t, r, k, l, []int{1}, 3, 5)
	holdBroken(t, r, k, l, []int{0, 1}, 0, 3, 5)
	holdBroken(t, r, k, l, []int{1, 2}, 4, 5)
	// what is installed decides what an upgrade is
	holdBroken(t, r, nil, l, []int{0}, 3)
	holdBroken(t, r, sample.Installed("b 1"), l[:2], []int{0, 2})
	holdBroken(t, r, sample.Installed("a 2"), l, []int{0, 1, 2}, 0, 2, 4, 5, 6)
	holdBroken(t, r, k, l[:2], []int{1, 2})
	holdBroken(t, r, k, nil, nil)
}

func TestP1101BrokenAndSetOfLittle(t *testing.T) {
	holdBroken(t, nil, nil, nil, nil)
	holdBroken(t, repo.Repo{}, lock.Lock{}, []ask.Ask{}, []int{})
	holdBroken(t, nil, sample.Installed("a 1"), nil, nil)
	holdBroken(t, nil, nil, sample.Requests("remove a", "install a", "pin a", "upgrade a"), nil, 1, 3)
	// equal rules have a number each
	holdBroken(t, sample.Packages("a 1 / Depends: b; b; a / Conflicts: c; c", "c 1"), nil, nil, []int{0, 1}, 2, 3, 5, 6)
}

func TestP1101BrokenAndSetAtTheLimits(t *testing.T) {
	r, l := sample.Full()
	var needs, asked []int
	for number, x := range rule.All(r, l) {
		switch x.Kind {
		case rule.Needs:
			needs = append(needs, number)
		case rule.Asked:
			asked = append(asked, number)
		}
	}
	if len(needs) != api.MaxPkgs*api.MaxDeps || len(asked) != api.MaxAsks {
		t.Fatalf("%d needs and %d requests are no full repository", len(needs), len(asked))
	}
	holdBroken(t, r, nil, l, nil, asked...)
	holdBroken(t, r, nil, l, sample.Subset(-1, len(r)), slices.Concat(needs, asked)...)
	holdBroken(t, r, nil, nil, []int{api.MaxPkgs - 1}, needs[len(needs)-api.MaxDeps:]...)
	holdBroken(t, r, nil, nil, nil)
}

// brokenByItsWords does what P1101 says of Broken, word by word.
func brokenByItsWords(r repo.Repo, k lock.Lock, l []ask.Ask, set []int) []int {
	rules, broken := rule.All(r, l), []int{}
	for n := range len(rules) {
		if !rule.Holds(rules[n], r, k, l, set) {
			broken = append(broken, n)
		}
	}
	return broken
}

func TestP1101BrokenAndSetByTheirWords(t *testing.T) {
	random := rand.New(rand.NewSource(1101))
	valids, broken := 0, 0
	for range 1000 {
		r, k, l := sample.Drawn(random.Intn)
		for bits := range 1 << len(r) {
			set := sample.Subset(bits, len(r))
			want := brokenByItsWords(r, k, l, set)
			holdBroken(t, r, k, l, set, want...)
			if len(want) == 0 {
				valids++
			} else if len(want) > 1 {
				broken++
			}
		}
	}
	if valids < 500 || broken < 500 {
		t.Errorf("%d valid sets, %d sets that break some rules", valids, broken)
	}
}

func TestP1101SetsThatAreNoneAreNotValid(t *testing.T) {
	r, l := example()
	for _, set := range [][]int{{2, 0}, {0, 0, 2}, {0, 2, 5}, {-1, 0, 2}} {
		if valid.Set(r, nil, l, set) {
			t.Errorf("Set of %v: true", set)
		}
	}
}
