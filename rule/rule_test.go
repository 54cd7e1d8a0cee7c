package rule_test

import (
	"fmt"
	"math"
	"slices"
	"strconv"
	"strings"
	"testing"

	"manciple/api"
	"manciple/ask"
	"manciple/atom"
	"manciple/lock"
	"manciple/pkg"
	"manciple/repo"
	"manciple/rng"
	"manciple/rule"
)

// packages returns the repository of these stanzas, each of them written as
// "NAME VER / FIELD / FIELD".
func packages(stanzas ...string) repo.Repo {
	var texts []string
	for _, s := range stanzas {
		fields := strings.Split(s, " / ")
		name, v, _ := strings.Cut(fields[0], " ")
		fields = append([]string{"Package: " + name, "Version: " + v}, fields[1:]...)
		texts = append(texts, strings.Join(fields, "\n")+"\n")
	}
	r, line, err := repo.Parse(strings.Join(texts, "\n"))
	if err != api.OK {
		panic(fmt.Sprintf("%q: %d, %v", stanzas, line, err))
	}
	return r
}

// requests returns the requests with these lines.
func requests(lines ...string) []ask.Ask {
	var text string
	for _, line := range lines {
		text += line + "\n"
	}
	l, line, err := ask.Parse(text)
	if err != api.OK {
		panic(fmt.Sprintf("%q: %d, %v", lines, line, err))
	}
	return l
}

// installed returns the lockfile with these entries, each written "NAME VER".
func installed(entries ...string) lock.Lock {
	var k lock.Lock
	for _, s := range entries {
		name, v, _ := strings.Cut(s, " ")
		k = append(k, lock.Entry{Name: name, Ver: v})
	}
	if i, err := lock.Check(k); err != api.OK {
		panic(fmt.Sprintf("%q: %d, %v", entries, i, err))
	}
	return k
}

// mixed returns a repository and requests that have rules of all kinds.
func mixed() (repo.Repo, []ask.Ask) {
	r := packages(
		"a 1 / Depends: b (> 1) or v; a",
		"a 2 / Conflicts: b; a; w",
		"b 1 / Depends: c / Conflicts: v (= 1) / Provides: v = 1",
		"b 2",
		"c 0 / Provides: w; v = 3",
	)
	return r, requests("install v (> 2)", "remove b", "upgrade a", "pin b (= 1)")
}

// mixedRules are those of mixed.
var mixedRules = []rule.Rule{
	{Kind: rule.One, Name: "a"},
	{Kind: rule.One, Name: "b"},
	{Kind: rule.One, Name: "c"},
	{Kind: rule.Needs, Pkg: 0, At: 0},
	{Kind: rule.Needs, Pkg: 0, At: 1},
	{Kind: rule.Conflict, Pkg: 1, At: 0},
	{Kind: rule.Conflict, Pkg: 1, At: 1},
	{Kind: rule.Conflict, Pkg: 1, At: 2},
	{Kind: rule.Needs, Pkg: 2, At: 0},
	{Kind: rule.Conflict, Pkg: 2, At: 0},
	{Kind: rule.Asked, At: 0},
	{Kind: rule.Asked, At: 1},
	{Kind: rule.Asked, At: 2},
	{Kind: rule.Asked, At: 3},
}

// full returns a repository and requests that have as many rules as may be.
func full() (repo.Repo, []ask.Ask) {
	var r repo.Repo
	for i := range api.MaxPkgs {
		p := pkg.Pkg{Name: "p" + strconv.Itoa(100+i), Ver: "1"}
		for k := range api.MaxDeps {
			a := atom.Atom{Name: "q" + strconv.Itoa(k), Range: rng.All()}
			p.Depends = append(p.Depends, slices.Repeat(pkg.Dep{a}, api.MaxAtoms))
			p.Conflicts = append(p.Conflicts, a)
		}
		r = append(r, p)
	}
	if i, err := repo.Check(r); err != api.OK {
		panic(fmt.Sprint(i, err))
	}
	return r, slices.Repeat(requests("install a"), api.MaxAsks)
}

func holdAll(t *testing.T, r repo.Repo, l []ask.Ask, want []rule.Rule) {
	t.Helper()
	if got := rule.All(r, l); !slices.Equal(got, want) {
		t.Errorf("All: %v; want %v", got, want)
	}
}

func TestP1001Kinds(t *testing.T) {
	if rule.One != 1 || rule.Needs != 2 || rule.Conflict != 3 || rule.Asked != 4 {
		t.Error("the kinds have other numbers")
	}
}

func TestP1001AllInOrder(t *testing.T) {
	r, l := mixed()
	holdAll(t, r, l, mixedRules)
	holdAll(t, r, nil, mixedRules[:10])
	holdAll(t, r[:4], nil, slices.Concat(mixedRules[:2], mixedRules[3:10]))
}

func TestP1001AllOfLittle(t *testing.T) {
	holdAll(t, nil, nil, nil)
	holdAll(t, repo.Repo{}, []ask.Ask{}, nil)
	holdAll(t, nil, requests("remove a", "remove a"), []rule.Rule{{Kind: rule.Asked, At: 0}, {Kind: rule.Asked, At: 1}})
	// what is provided is no name of the repository
	holdAll(t, packages("z 1 / Provides: a = 1; b"), nil, []rule.Rule{{Kind: rule.One, Name: "z"}})
	// a name has one rule, however many packages have it; equal parts have a rule each
	holdAll(t, packages("a 1 / Depends: b; b", "a 2 / Conflicts: b; b"), nil, []rule.Rule{
		{Kind: rule.One, Name: "a"},
		{Kind: rule.Needs, Pkg: 0, At: 0},
		{Kind: rule.Needs, Pkg: 0, At: 1},
		{Kind: rule.Conflict, Pkg: 1, At: 0},
		{Kind: rule.Conflict, Pkg: 1, At: 1},
	})
}

func TestP1001AllAtTheLimits(t *testing.T) {
	r, l := full()
	var want []rule.Rule
	for _, p := range r {
		want = append(want, rule.Rule{Kind: rule.One, Name: p.Name})
	}
	for i := range r {
		for k := range api.MaxDeps {
			want = append(want, rule.Rule{Kind: rule.Needs, Pkg: i, At: k})
		}
		for k := range api.MaxDeps {
			want = append(want, rule.Rule{Kind: rule.Conflict, Pkg: i, At: k})
		}
	}
	for i := range l {
		want = append(want, rule.Rule{Kind: rule.Asked, At: i})
	}
	holdAll(t, r, l, want)
}

func TestP1001Set(t *testing.T) {
	for _, c := range []struct {
		set  []int
		n    int
		want bool
	}{
		{nil, 0, true},
		{[]int{}, 0, true},
		{nil, 5, true},
		{nil, -1, true},
		{nil, math.MinInt, true},
		{[]int{0}, 1, true},
		{[]int{0}, 0, false},
		{[]int{0}, -1, false},
		{[]int{0}, math.MinInt, false},
		{[]int{-1}, 1, false},
		{[]int{-1}, -1, false},
		{[]int{-2}, -1, false},
		{[]int{math.MinInt}, 1, false},
		{[]int{math.MinInt, 0}, 1, false},
		{[]int{4}, 5, true},
		{[]int{5}, 5, false},
		{[]int{6}, 5, false},
		{[]int{0, 1, 2}, 3, true},
		{[]int{0, 2, 63}, 64, true},
		{[]int{0, 2, 64}, 64, false},
		{[]int{0, 0}, 2, false},
		{[]int{1, 0}, 2, false},
		{[]int{0, 1, 1}, 2, false},
		{[]int{0, 2, 1}, 3, false},
		{[]int{0, 1, -1}, 3, false},
		{[]int{0, 3, 2}, 3, false},
		{[]int{math.MaxInt - 1}, math.MaxInt, true},
		{[]int{math.MaxInt}, math.MaxInt, false},
		{[]int{math.MaxInt - 1, math.MaxInt}, math.MaxInt, false},
		{[]int{math.MaxInt, math.MinInt}, math.MaxInt, false},
		{[]int{math.MaxInt, 0}, math.MaxInt, false},
	} {
		if got := rule.Set(c.set, c.n); got != c.want {
			t.Errorf("Set(%v, %d): %v", c.set, c.n, got)
		}
	}
}

// subset returns the set that has number i for each bit i of bits.
func subset(bits, n int) []int {
	var set []int
	for i := range n {
		if bits>>i&1 == 1 {
			set = append(set, i)
		}
	}
	return set
}

func TestP1001SetIsEachSubsetAndNothingElse(t *testing.T) {
	const n = 4
	sets := map[string]struct{}{}
	for bits := range 1 << n {
		sets[fmt.Sprint(subset(bits, n))] = struct{}{}
	}
	lists := [][]int{nil}
	for len(lists) > 0 {
		list := lists[0]
		lists = lists[1:]
		if _, want := sets[fmt.Sprint(list)]; rule.Set(list, n) != want {
			t.Errorf("Set(%v, %d): %v", list, n, !want)
		}
		for next := -1; next <= n && len(list) <= n; next++ {
			lists = append(lists, append(slices.Clone(list), next))
		}
	}
}
