package rup_test

import (
	"fmt"
	"math/rand"
	"slices"
	"testing"

	"manciple/api"
	"manciple/cnf"
	"manciple/prop"
	"manciple/rup"
	"manciple/sample"
)

// shown writes as much of a thing as a message can bear.
func shown(x any) string { return fmt.Sprintf("%.400s", fmt.Sprint(x)) }

func holdFollows(t *testing.T, n int, l []cnf.Clause, c cnf.Clause, want bool) {
	t.Helper()
	if got := rup.Follows(n, l, c); got != want {
		t.Errorf("Follows(%d, %s, %s): %v; want %v", n, shown(l), shown(c), got, want)
	}
}

// four returns the clauses of the chapter's example, which have no model.
func four() []cnf.Clause { return []cnf.Clause{{1, 2}, {-1, 2}, {1, -2}, {-1, -2}} }

// chain returns clauses by which each variable follows from the one before it.
func chain(n int) []cnf.Clause {
	var l []cnf.Clause
	for v := 1; v < n; v++ {
		l = append(l, cnf.Clause{-v, v + 1})
	}
	return l
}

func TestP1601Follows(t *testing.T) {
	// the example of the chapter
	holdFollows(t, 2, four(), cnf.Clause{1}, true)
	holdFollows(t, 2, append(four(), cnf.Clause{1}), nil, true)
	holdFollows(t, 2, four(), nil, false)
	// what is itself among the clauses, and what holds even more
	l := []cnf.Clause{{1, -2}, {3}}
	holdFollows(t, 4, l, cnf.Clause{1, -2}, true)
	holdFollows(t, 4, l, cnf.Clause{-2, 1}, true)
	holdFollows(t, 4, l, cnf.Clause{-2, 4, 1}, true)
	holdFollows(t, 4, l, cnf.Clause{3}, true)
	holdFollows(t, 4, l, cnf.Clause{3, -4}, true)
	// but not what holds less
	holdFollows(t, 4, l, cnf.Clause{1}, false)
	holdFollows(t, 4, l, cnf.Clause{-2}, false)
	holdFollows(t, 4, l, cnf.Clause{-1, 2}, false)
	holdFollows(t, 4, l, cnf.Clause{-3}, false)
	holdFollows(t, 4, l, cnf.Clause{-3, 2, -1, 4}, false)
	holdFollows(t, 4, l, nil, false)
	// what follows by several clauses, from either end
	holdFollows(t, 3, chain(3), cnf.Clause{-1, 3}, true)
	holdFollows(t, 3, chain(3), cnf.Clause{3, -1}, true)
	holdFollows(t, 3, chain(3), cnf.Clause{1, 3}, false)
	holdFollows(t, 3, chain(3), cnf.Clause{1, -3}, false)
	holdFollows(t, 3, chain(3), cnf.Clause{-1, -3}, false)
	holdFollows(t, 3, append(chain(3), cnf.Clause{1}), cnf.Clause{3}, true)
	holdFollows(t, 3, append(chain(3), cnf.Clause{1}), cnf.Clause{-3}, false)
}

// TestP1601FollowsNegatesAllLiterals: each of these clauses needs every one of
// its literals.
func TestP1601FollowsNegatesAllLiterals(t *testing.T) {
	l := []cnf.Clause{{1, -2, 3, 5}, {4, -5, -6}, {4, -5, 6}}
	c := cnf.Clause{1, -2, 3, 4}
	for range c {
		holdFollows(t, 6, l, c, true)
		holdFollows(t, 6, l, c[1:], false)
		holdFollows(t, 6, l, append(slices.Clone(c[1:]), -c[0]), false)
		c = append(slices.Clone(c[1:]), c[0])
	}
}

func TestP1601FollowsOfClausesThatAlwaysHold(t *testing.T) {
	for _, l := range [][]cnf.Clause{nil, {{3}}, {{1, 2}}, four(), {{}}} {
		for _, c := range []cnf.Clause{{1, -1}, {-1, 1}, {2, 3, -2}, {-3, 1, -2, 2}, {1, 1, -1, -1}} {
			holdFollows(t, 3, l, c, true)
		}
	}
}

// TestP1601FollowsWithLiteralsThatAreThereTwice: that they are does not count.
func TestP1601FollowsWithLiteralsThatAreThereTwice(t *testing.T) {
	holdFollows(t, 3, []cnf.Clause{{1}}, cnf.Clause{3, 1, 3}, true)
	holdFollows(t, 3, []cnf.Clause{{1, 1, 1}}, cnf.Clause{1}, true)
	holdFollows(t, 3, []cnf.Clause{{1}}, cnf.Clause{2, 2, 2}, false)
	holdFollows(t, 3, []cnf.Clause{{1, 2, 1}}, cnf.Clause{2, 1, 2}, true)
	// nor where more follows than there are of them
	holdFollows(t, 9, chain(9), slices.Concat(slices.Repeat(cnf.Clause{-1}, 200), cnf.Clause{9}), true)
	holdFollows(t, 9, chain(9), slices.Concat(slices.Repeat(cnf.Clause{9}, 5), cnf.Clause{-1}), true)
	holdFollows(t, 9, chain(9), slices.Repeat(cnf.Clause{9}, 5), false)
	holdFollows(t, 9, append(chain(9), cnf.Clause{-9}), slices.Repeat(cnf.Clause{-1}, 3), true)
}

func TestP1601FollowsOfTheEmptyClause(t *testing.T) {
	for n := range 3 {
		holdFollows(t, n, nil, nil, false)
		holdFollows(t, n, []cnf.Clause{{}}, nil, true)
		holdFollows(t, n, []cnf.Clause{nil}, cnf.Clause{}, true)
	}
	holdFollows(t, 3, []cnf.Clause{{1}, {-1}}, nil, true)
	holdFollows(t, 3, []cnf.Clause{{1}, {-1, 2}, {-3, -2}, {3}}, nil, true)
	holdFollows(t, 3, []cnf.Clause{{1}, {-1, 2}, {-3, -2}}, nil, false)
	// from what is contradictory by itself everything follows
	for _, c := range sample.Clauses(2, 2) {
		holdFollows(t, 2, []cnf.Clause{{1}, {-1}}, c, true)
		holdFollows(t, 2, []cnf.Clause{{}}, c, true)
	}
	// and from nothing only what always holds
	for _, c := range sample.Clauses(2, 3) {
		_, sometimes := cnf.Norm(c)
		holdFollows(t, 2, nil, c, !sometimes)
	}
}

// TestP1601FollowsSeesNoCases: what is true in every model but follows by no
// clause of which one literal remains does not follow.
func TestP1601FollowsSeesNoCases(t *testing.T) {
	l := []cnf.Clause{{3, 1, 2}, {3, -1, 2}, {3, 1, -2}, {3, -1, -2}}
	holdFollows(t, 4, l, cnf.Clause{3}, false)
	holdFollows(t, 4, l, cnf.Clause{3, 4}, false)
	holdFollows(t, 4, l, cnf.Clause{3, 1}, true)
	holdFollows(t, 4, append(l, cnf.Clause{3, 1}), cnf.Clause{3}, true)
}

func TestP1601FollowsAtTheLimits(t *testing.T) {
	n := api.MaxVars
	l := chain(n)
	holdFollows(t, n, l, cnf.Clause{-1, n}, true)
	holdFollows(t, n, l, cnf.Clause{-n, 1}, false)
	holdFollows(t, n, l, slices.Repeat(cnf.Clause{-1, n}, api.MaxClause/2), true)
	holdFollows(t, n, l, slices.Repeat(cnf.Clause{1, -n}, api.MaxClause/2), false)
	var long cnf.Clause
	for v := 1; v <= n; v++ {
		long = append(long, v*(1-v%3/2*2))
	}
	holdFollows(t, n, []cnf.Clause{long}, long, true)
	for i := range long {
		holdFollows(t, n, []cnf.Clause{long}, slices.Delete(slices.Clone(long), i, i+1), false)
	}
	many := slices.Repeat([]cnf.Clause{{1, 2, 3}}, api.MaxClauses-len(l))
	for _, all := range [][]cnf.Clause{slices.Concat(many, l), slices.Concat(l, many)} {
		holdFollows(t, n, all, cnf.Clause{-1, n}, true)
		holdFollows(t, n, all, cnf.Clause{1, 3, 2}, true)
		holdFollows(t, n, all, cnf.Clause{3, n}, true)
		holdFollows(t, n, all, cnf.Clause{2}, false)
	}
}

// followsByItsWords does what P1601 says of Follows, word by word.
func followsByItsWords(n int, l []cnf.Clause, c cnf.Clause) bool {
	var negated []int
	for _, lit := range c {
		negated = append(negated, -lit)
	}
	_, contradicts := prop.Close(n, l, negated)
	return contradicts
}

func TestP1601FollowsByItsWordsOfAllShortLists(t *testing.T) {
	short := sample.Clauses(2, 2)
	for _, a := range short {
		for _, b := range short {
			for _, c := range short {
				l := []cnf.Clause{a, b}
				holdFollows(t, 2, l, c, followsByItsWords(2, l, c))
			}
		}
	}
}

func TestP1601FollowsByItsWords(t *testing.T) {
	random := rand.New(rand.NewSource(1601))
	told := map[bool]int{}
	for range 20000 {
		n, l := sample.DrawnClauses(random.Intn)
		c := sample.Clause(random.Intn, 4, 1, n)
		want := followsByItsWords(n, l, c)
		holdFollows(t, n, l, c, want)
		told[want]++
	}
	if told[true] < 3000 || told[false] < 3000 {
		t.Errorf("what came up: %v", told)
	}
}

// TestP1601WhatFollowsIsTrue in every model of the clauses (T3).
func TestP1601WhatFollowsIsTrue(t *testing.T) {
	random := rand.New(rand.NewSource(1602))
	held := 0
	for range 2000 {
		n, l := sample.DrawnClauses(random.Intn)
		c := sample.Clause(random.Intn, 4, 1, n)
		if !rup.Follows(n, l, c) {
			continue
		}
		for _, m := range sample.Models(n) {
			if cnf.First(l, m) >= 0 {
				continue
			}
			held++
			if !cnf.Holds(c, m) {
				t.Fatalf("Follows(%d, %v, %v), though it does not hold in the model %v", n, l, c, m)
			}
		}
	}
	if held < 1000 {
		t.Errorf("only %d models", held)
	}
}
