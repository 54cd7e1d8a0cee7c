package rule_test

import (
	"fmt"
	"math"
	"slices"
	"strings"
	"testing"
	"unsafe"

	"manciple/api"
	"manciple/ask"
	"manciple/atom"
	"manciple/lock"
	"manciple/repo"
	"manciple/rng"
	"manciple/rule"
	"manciple/sample"
)

var numbers = []int{0, 1, 2, 3, 4, 5, 6, -1, -2, 64, math.MaxInt, math.MinInt}

// no fails for what names something that there is not: by P1 it must not panic,
// and what it answers must not pass for a rule that holds or that has a text.
func no(t *testing.T, x rule.Rule, r repo.Repo, l []ask.Ask) {
	t.Helper()
	for _, set := range [][]int{nil, {0}, {0, 1}} {
		if len(r) >= len(set) && rule.Holds(x, r, nil, l, set) {
			t.Errorf("Holds(%v) of %v: true", x, set)
		}
	}
	if text := rule.Text(x, r, l); text != "" {
		t.Errorf("Text(%v): %q", x, text)
	}
}

func TestP1RulesThatAreNone(t *testing.T) {
	r, l := sample.Mixed()
	rules := rule.All(r, l)
	for _, kind := range numbers {
		for _, p := range numbers {
			for _, at := range numbers {
				x := rule.Rule{Kind: kind, Pkg: p, At: at}
				alike := func(y rule.Rule) bool {
					return x.Kind == rule.One || x == y || x.Kind == rule.Asked && y.Kind == x.Kind && x.At == y.At
				}
				if !slices.ContainsFunc(rules, alike) {
					no(t, x, r, l)
				}
				if kind != rule.One {
					no(t, x, nil, nil)
				}
			}
		}
	}
}

func TestP1SetsThatAreNone(t *testing.T) {
	r, l := sample.Mixed()
	for _, x := range rule.All(r, l) {
		for _, i := range numbers {
			for _, k := range numbers {
				set := []int{i, k}
				if !rule.Set(set, len(r)) && rule.Holds(x, r, nil, l, set) {
					t.Errorf("Holds(%v) of %v: true", x, set)
				}
			}
		}
	}
}

func TestP1AnyPackagesAndRequests(t *testing.T) {
	for _, g := range sample.Wild() {
		for _, x := range rule.All(g.Repo, g.Asks) {
			rule.Holds(x, g.Repo, g.Lock, g.Asks, g.Set)
			rule.Text(x, g.Repo, g.Asks)
		}
	}
}

func TestP1RequestsThatAreNone(t *testing.T) {
	r, _ := sample.Mixed()
	l := []ask.Ask{{}, {Kind: 5, Atom: atom.Atom{Name: "a", Range: rng.All()}}, {Kind: -1}, {Kind: math.MinInt}}
	for at := range l {
		no(t, rule.Rule{Kind: rule.Asked, At: at}, r, l)
	}
	l = []ask.Ask{{Kind: ask.Remove, Atom: atom.Atom{Name: "a"}}, {Kind: ask.Install, Atom: atom.Atom{Name: "A", Range: rng.All()}}}
	for at := range l {
		if text := rule.Text(rule.Rule{Kind: rule.Asked, At: at}, r, l); text != "" {
			t.Errorf("Text of a request that has no line: %q", text)
		}
	}
}

func TestP2ArgumentsStayAsTheyAre(t *testing.T) {
	r, l := sample.Mixed()
	for bits := range 1 << len(r) {
		g := sample.Given{Repo: r, Lock: sample.Installed("a 1", "z 5"), Asks: l, Set: sample.Subset(bits, len(r))}.Spaced()
		before := g.Stretched()
		for _, x := range rule.All(g.Repo, g.Asks) {
			rule.Holds(x, g.Repo, g.Lock, g.Asks, g.Set)
			rule.Text(x, g.Repo, g.Asks)
		}
		rule.Set(g.Set, len(g.Repo))
		if after := g.Stretched(); !sample.Same(after, before) {
			t.Fatalf("%v is now %v", before, after)
		}
	}
}

// isIn tells whether v lies in the memory of s.
func isIn(v, s string) bool {
	first := func(s string) uintptr { return uintptr(unsafe.Pointer(unsafe.StringData(s))) }
	return v != "" && s != "" && first(v) < first(s)+uintptr(len(s)) && first(s) < first(v)+uintptr(len(v))
}

func TestP2ResultsAreNewMemory(t *testing.T) {
	r, l := sample.Mixed()
	one, two := rule.All(r, l), rule.All(r, l)
	for i, x := range one {
		for _, p := range r {
			if isIn(x.Name, p.Name) {
				t.Errorf("All: the name of %v lies in the repository", x)
			}
		}
		if isIn(rule.Text(x, r, l), x.Name) {
			t.Errorf("Text(%v) lies in the rule", x)
		}
		one[i] = rule.Rule{Kind: 99}
	}
	spare := one[len(one):cap(one)]
	for i := range spare {
		spare[i] = rule.Rule{Kind: 99}
	}
	if !slices.Equal(two, mixedRules) {
		t.Error("All: two results share memory")
	}
	holdAll(t, r, l, mixedRules)
}

func TestP2NilIsAsEmpty(t *testing.T) {
	r, l := sample.Mixed()
	for _, x := range rule.All(r, l) {
		if rule.Holds(x, r, nil, l, nil) != rule.Holds(x, r, lock.Lock{}, l, []int{}) {
			t.Errorf("Holds(%v): nil lists are not as empty ones", x)
		}
	}
	holdAll(t, nil, []ask.Ask{}, nil)
	holdAll(t, repo.Repo{}, nil, nil)
}

func TestP3SameCallsSameResults(t *testing.T) {
	r, l := sample.Mixed()
	k := sample.Installed("a 1")
	var first string
	for n := range 3 {
		var s strings.Builder
		for _, x := range rule.All(r, l) {
			fmt.Fprintln(&s, x, rule.Text(x, r, l))
			for bits := range 1 << len(r) {
				fmt.Fprint(&s, rule.Holds(x, r, k, l, sample.Subset(bits, len(r))))
			}
		}
		if n == 0 {
			first = s.String()
		}
		if s.String() != first {
			t.Fatal("the same calls have other results")
		}
		no(t, rule.Rule{Kind: rule.Needs, Pkg: api.MaxPkgs}, r, l) // what is refused leaves nothing behind
	}
}
