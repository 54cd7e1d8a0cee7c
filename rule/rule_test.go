package rule_test

import (
	"fmt"
	"math"
	"slices"
	"testing"

	"manciple/api"
	"manciple/ask"
	"manciple/repo"
	"manciple/rule"
	"manciple/sample"
)

// mixedRules are those of sample.Mixed.
var mixedRules = []rule.Rule{
	{Kind: rule.One, Name: "a"},
	{Kind: rule.One, Name: "b"},
	{Kind: rule.One, Name: "c"},
	{Kind: rule.Needs, Pkg: 0, At: 0},
	{Kind: rule.Needs, Pkg: 0, At: 1},
	{Kind: rule.Conflict, Pkg: 1, At: 0},
	{Kind: rule.Conflict, Pkg: 1, At: 1},
	{Kind: rule.Conflict, Pkg: 1, At: 2},
	{Kind: rule.Needs, Pkg: 2, At: 0},
	{Kind: rule.Conflict, Pkg: 2, At: 0},
	{Kind: rule.Asked, At: 0},
	{Kind: rule.Asked, At: 1},
	{Kind: rule.Asked, At: 2},
	{Kind: rule.Asked, At: 3},
}

func holdAll(t *testing.T, r repo.Repo, l []ask.Ask, want []rule.Rule) {
	t.Helper()
	if got := rule.All(r, l); !slices.Equal(got, want) {
		t.Errorf("All: %v; want %v", got, want)
	}
}

func TestP1001Kinds(t *testing.T) {
	if rule.One != 1 || rule.Needs != 2 || rule.Conflict != 3 || rule.Asked != 4 {
		t.Error("the kinds have other numbers")
	}
}

func TestP1001AllInOrder(t *testing.T) {
	r, l := sample.Mixed()
	holdAll(t, r, l, mixedRules)
	holdAll(t, r, nil, mixedRules[:10])
	holdAll(t, r[:4], nil, slices.Concat(mixedRules[:2], mixedRules[3:10]))
}

func TestP1001AllOfLittle(t *testing.T) {
	holdAll(t, nil, nil, nil)
	holdAll(t, repo.Repo{}, []ask.Ask{}, nil)
	holdAll(t, nil, sample.Requests("remove a", "remove a"), []rule.Rule{{Kind: rule.Asked, At: 0}, {Kind: rule.Asked, At: 1}})
	// what is provided is no name of the repository
	holdAll(t, sample.Packages("z 1 / Provides: a = 1; b"), nil, []rule.Rule{{Kind: rule.One, Name: "z"}})
	// a name has one rule, however many packages have it; equal parts have a rule each
	holdAll(t, sample.Packages("a 1 / Depends: b; b", "a 2 / Conflicts: b; b"), nil, []rule.Rule{
		{Kind: rule.One, Name: "a"},
		{Kind: rule.Needs, Pkg: 0, At: 0},
		{Kind: rule.Needs, Pkg: 0, At: 1},
		{Kind: rule.Conflict, Pkg: 1, At: 0},
		{Kind: rule.Conflict, Pkg: 1, At: 1},
	})
}

func TestP1001AllAtTheLimits(t *testing.T) {
	r, l := sample.Full()
	var want []rule.Rule
	for _, p := range r {
		want = append(want, rule.Rule{Kind: rule.One, Name: p.Name})
	}
	for i := range r {
		for k := range api.MaxDeps {
			want = append(want, rule.Rule{Kind: rule.Needs, Pkg: i, At: k})
		}
		for k := range api.MaxDeps {
			want = append(want, rule.Rule{Kind: rule.Conflict, Pkg: i, At: k})
		}
	}
	for i := range l {
		want = append(want, rule.Rule{Kind: rule.Asked, At: i})
	}
	holdAll(t, r, l, want)
}

func TestP1001Set(t *testing.T) {
	for _, c := range []struct {
		set  []int
		n    int
		want bool
	}{
		{nil, 0, true},
		{[]int{}, 0, true},
		{nil, 5, true},
		{nil, -1, true},
		{nil, math.MinInt, true},
		{[]int{0}, 1, true},
		{[]int{0}, 0, false},
		{[]int{0}, -1, false},
		{[]int{0}, math.MinInt, false},
		{[]int{-1}, 1, false},
		{[]int{-1}, -1, false},
		{[]int{-2}, -1, false},
		{[]int{math.MinInt}, 1, false},
		{[]int{math.MinInt, 0}, 1, false},
		{[]int{4}, 5, true},
		{[]int{5}, 5, false},
		{[]int{6}, 5, false},
		{[]int{0, 1, 2}, 3, true},
		{[]int{0, 2, 63}, 64, true},
		{[]int{0, 2, 64}, 64, false},
		{[]int{0, 0}, 2, false},
		{[]int{1, 0}, 2, false},
		{[]int{0, 1, 1}, 2, false},
		{[]int{0, 2, 1}, 3, false},
		{[]int{0, 1, -1}, 3, false},
		{[]int{0, 3, 2}, 3, false},
		{[]int{math.MaxInt - 1}, math.MaxInt, true},
		{[]int{math.MaxInt}, math.MaxInt, false},
		{[]int{math.MaxInt - 1, math.MaxInt}, math.MaxInt, false},
		{[]int{math.MaxInt, math.MinInt}, math.MaxInt, false},
		{[]int{math.MaxInt, 0}, math.MaxInt, false},
	} {
		if got := rule.Set(c.set, c.n); got != c.want {
			t.Errorf("Set(%v, %d): %v", c.set, c.n, got)
		}
	}
}

func TestP1001SetIsEachSubsetAndNothingElse(t *testing.T) {
	const n = 4
	sets := map[string]struct{}{}
	for bits := range 1 << n {
		sets[fmt.Sprint(sample.Subset(bits, n))] = struct{}{}
	}
	lists := [][]int{nil}
	for len(lists) > 0 {
		list := lists[0]
		lists = lists[1:]
		if _, want := sets[fmt.Sprint(list)]; rule.Set(list, n) != want {
			t.Errorf("Set(%v, %d): %v", list, n, !want)
		}
		for next := -1; next <= n && len(list) <= n; next++ {
			lists = append(lists, append(slices.Clone(list), next))
		}
	}
}
