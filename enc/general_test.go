package enc_test

import (
	"math"
	"slices"
	"testing"

	"manciple/ask"
	"manciple/atom"
	"manciple/cnf"
	"manciple/enc"
	"manciple/lock"
	"manciple/repo"
	"manciple/rng"
	"manciple/rule"
	"manciple/sample"
)

var numbers = []int{0, 1, 2, 3, 4, 5, 6, -1, -2, 64, math.MaxInt, math.MinInt}

// TestP1RulesThatAreNone: what names something that there is not holds of no
// set, and its clauses must not pass for clauses that hold.
func TestP1RulesThatAreNone(t *testing.T) {
	r, l := sample.Mixed()
	for _, kind := range numbers {
		for _, p := range numbers {
			for _, at := range numbers {
				x := rule.Rule{Kind: kind, Name: "a", Pkg: p, At: at}
				agrees(t, x, r, nil, l)
				if kind != rule.One {
					holdRule(t, x, nil, nil, nil, nil)
				}
			}
		}
	}
}

func TestP1RequestsThatAreNone(t *testing.T) {
	r, _ := sample.Mixed()
	a := atom.Atom{Name: "a", Range: rng.All()}
	for at, kind := range []int{0, 5, -1, math.MaxInt, math.MinInt} {
		l := append(make([]ask.Ask, at), ask.Ask{Kind: kind, Atom: a})
		holdRule(t, rule.Rule{Kind: rule.Asked, At: at}, r, nil, l, nil)
	}
}

func TestP1AnyPackagesAndRequests(t *testing.T) {
	for _, g := range sample.Wild() {
		for _, x := range rule.All(g.Repo, g.Asks) {
			agrees(t, x, g.Repo, g.Lock, g.Asks)
		}
		enc.All(g.Repo, g.Lock, g.Asks)
	}
}

func TestP1SetsThatAreNone(t *testing.T) {
	for _, i := range numbers {
		for _, k := range numbers {
			for _, n := range numbers {
				if m := enc.Model([]int{i, k}, n); !rule.Set([]int{i, k}, n) && len(m) > 0 {
					t.Errorf("Model(%v, %d): %v", []int{i, k}, n, m)
				}
			}
		}
	}
}

func TestP2ArgumentsStayAsTheyAre(t *testing.T) {
	r, l := sample.Mixed()
	for bits := range 1 << len(r) {
		g := sample.Given{Repo: r, Lock: sample.Installed("a 1", "z 5"), Asks: l, Set: sample.Subset(bits, len(r))}.Spaced()
		before := g.Stretched()
		for _, x := range rule.All(g.Repo, g.Asks) {
			enc.Rule(x, g.Repo, g.Lock, g.Asks)
		}
		enc.All(g.Repo, g.Lock, g.Asks)
		m := append(enc.Model(g.Set, len(r)), true, true)[:len(r)]
		stretched := slices.Clone(m[:len(r)+2])
		enc.Set(m)
		if after := g.Stretched(); !sample.Same(after, before) || !slices.Equal(m[:len(r)+2], stretched) {
			t.Fatalf("%v and %v are now %v and %v", before, stretched, after, m[:len(r)+2])
		}
	}
}

func TestP2ClausesAreNewMemory(t *testing.T) {
	r, l := sample.Mixed()
	for _, x := range rule.All(r, l) {
		want := ruleByItsWords(x, r, nil, l)
		one := enc.Rule(x, r, nil, l)
		for i := range one {
			sample.Spill(one[i], -9)
			if !cnf.Same(one[i+1:], want[i+1:]) {
				t.Fatalf("Rule(%v): clause %d shares memory with another one", x, i)
			}
		}
		sample.Spill(one, cnf.Clause{-9})
		holdRule(t, x, r, nil, l, want...)
	}
	want := allByItsWords(r, nil, l)
	one, two := enc.All(r, nil, l), enc.All(r, nil, l)
	for i := range one {
		sample.Spill(one[i].Clause, -9)
		if !sameTagged(one[i+1:], want[i+1:]) {
			t.Fatalf("All: clause %d shares memory with another one", i)
		}
	}
	sample.Spill(one, enc.Tagged{Rule: -9})
	if !sameTagged(two, want) {
		t.Error("All: two results share memory")
	}
	holdAll(t, r, nil, l, want...)
}

func TestP2SetsAndModelsAreNewMemory(t *testing.T) {
	set, m := []int{0, 2}, []bool{true, false, true}
	model, other := enc.Model(set, 3), enc.Model(set, 3)
	sample.Spill(model, false)
	sample.Spill(enc.Set(m), -9)
	if !slices.Equal(other, m) || !slices.Equal(set, []int{0, 2}) || !slices.Equal(m, []bool{true, false, true}) {
		t.Errorf("%v, %v and %v share memory with what was written over", other, set, m)
	}
	holdModel(t, set, 3, m...)
	holdSet(t, m, set...)
}

func TestP2NilIsAsEmpty(t *testing.T) {
	r, l := sample.Mixed()
	for _, x := range rule.All(r, l) {
		holdRule(t, x, r, lock.Lock{}, l, enc.Rule(x, r, nil, l)...)
	}
	holdAll(t, r, lock.Lock{}, []ask.Ask{}, enc.All(r, nil, nil)...)
	holdAll(t, repo.Repo{}, lock.Lock{}, l, enc.All(nil, nil, l)...)
	holdModel(t, []int{}, 2, false, false)
	holdModel(t, []int{}, 0)
	holdSet(t, []bool{})
}

func TestP3SameCallsSameResults(t *testing.T) {
	r, l := sample.Mixed()
	k := sample.Installed("a 1")
	want := allByItsWords(r, k, l)
	for range 5 {
		holdRule(t, rule.Rule{Kind: rule.Needs, Pkg: 64}, r, k, l, nil) // what is refused leaves nothing behind
		holdModel(t, []int{5}, 5)
		holdAll(t, r, k, l, want...)
		for _, x := range rule.All(r, l) {
			holdRule(t, x, r, k, l, ruleByItsWords(x, r, k, l)...)
		}
		holdModel(t, []int{0, 3}, 5, true, false, false, true, false)
		holdSet(t, []bool{true, false, false, true, false}, 0, 3)
	}
}
