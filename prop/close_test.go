package prop_test

import (
	"fmt"
	"math/rand"
	"slices"
	"testing"

	"manciple/api"
	"manciple/cnf"
	"manciple/prop"
	"manciple/sample"
)

// shown writes as much of a thing as a message can bear.
func shown(x any) string { return fmt.Sprintf("%.400s", fmt.Sprint(x)) }

func holdOutcome(t *testing.T, n int, l []cnf.Clause, lits, want []int, contradicts bool) {
	t.Helper()
	if got, is := prop.Close(n, l, lits); !slices.Equal(got, want) || is != contradicts {
		t.Errorf("Close(%d, %s, %s): %s, %v; want %s, %v", n, shown(l), shown(lits), shown(got), is, shown(want), contradicts)
	}
}

func holdClose(t *testing.T, n int, l []cnf.Clause, lits []int, want ...int) {
	t.Helper()
	holdOutcome(t, n, l, lits, want, false)
}

func holdContradiction(t *testing.T, n int, l []cnf.Clause, lits ...int) {
	t.Helper()
	holdOutcome(t, n, l, lits, nil, true)
}

func TestP1501Close(t *testing.T) {
	// the example of the chapter
	l := []cnf.Clause{{-1, 2}, {-2, 3}}
	holdClose(t, 3, l, []int{1}, 1, 2, 3)
	holdContradiction(t, 3, append(l, cnf.Clause{-1, -3}), 1)
	// from the other end, and from the middle
	holdClose(t, 3, l, []int{-3}, -1, -2, -3)
	holdClose(t, 3, l, []int{2}, 2, 3)
	holdClose(t, 3, l, []int{-2}, -1, -2)
	// nothing follows from these
	holdClose(t, 3, l, []int{-1}, -1)
	holdClose(t, 3, l, []int{3}, 3)
	holdClose(t, 3, l, nil)
	// nor where two literals remain
	l = []cnf.Clause{{1, 2, 3, -4}}
	holdClose(t, 4, l, []int{-1, 4}, -1, 4)
	holdClose(t, 4, l, []int{-1, 4, -3}, -1, 2, -3, 4)
	holdClose(t, 4, l, []int{-1, -2, -3}, -1, -2, -3, -4)
	holdClose(t, 4, l, []int{-3, 4, -2}, 1, -2, -3, 4)
	holdContradiction(t, 4, l, -1, -2, -3, 4)
	// nor where one that is there has it hold
	holdClose(t, 4, l, []int{1}, 1)
	holdClose(t, 4, l, []int{-1, -2, 3}, -1, -2, 3)
	holdClose(t, 4, l, []int{-1, -2, 3, 4}, -1, -2, 3, 4)
	holdClose(t, 4, l, []int{-4, -1, -2, -3}, -1, -2, -3, -4)
}

func TestP1501CloseStartsWithLits(t *testing.T) {
	// by the variables, not by the literals, and each once
	holdClose(t, 9, nil, []int{3, -1}, -1, 3)
	holdClose(t, 9, nil, []int{-1, -2, -9, 4}, -1, -2, 4, -9)
	holdClose(t, 9, nil, []int{2, 2}, 2)
	holdClose(t, 9, nil, []int{-2, 1, -2, 1, -2}, 1, -2)
	holdClose(t, 9, nil, slices.Repeat([]int{5, -3, 9}, 1000), -3, 5, 9)
	holdClose(t, 9, nil, nil)
	holdClose(t, 0, nil, nil)
	holdContradiction(t, 9, nil, 2, -2)
	holdContradiction(t, 9, nil, -2, 2)
	holdContradiction(t, 9, nil, 1, -9, 2, 3, 9)
	holdContradiction(t, 9, nil, append(slices.Repeat([]int{4}, 1000), -4)...)
	// what is there of other variables than those of the clauses stays
	holdClose(t, 9, []cnf.Clause{{-1, 2}}, []int{9, 1, -5}, 1, 2, -5, 9)
	var all []int
	for v := 1; v <= api.MaxVars; v++ {
		all = append(all, v*(1-v%3/2*2))
	}
	holdClose(t, api.MaxVars, nil, all, all...)
	for at, lit := range all {
		holdContradiction(t, api.MaxVars, nil, append(slices.Clone(all), -lit)...)
		without := slices.Delete(slices.Clone(all), at, at+1)
		holdClose(t, api.MaxVars, nil, without, without...)
	}
}

func TestP1501CloseOfUnits(t *testing.T) {
	holdClose(t, 3, []cnf.Clause{{2}}, nil, 2)
	holdClose(t, 3, []cnf.Clause{{3}, {-1}, {3}}, nil, -1, 3)
	holdClose(t, 3, []cnf.Clause{{2}}, []int{2, -1}, -1, 2)
	holdContradiction(t, 3, []cnf.Clause{{2}, {-2}})
	holdContradiction(t, 3, []cnf.Clause{{2}}, -2)
	holdContradiction(t, 3, []cnf.Clause{{2}}, 1, -2)
	holdContradiction(t, 3, []cnf.Clause{{1}, {-1, 2}, {-2, 3}, {-3}})
	// the negations of all literals of an empty clause are there
	for n := range 3 {
		holdContradiction(t, n, []cnf.Clause{{}})
		holdContradiction(t, n, []cnf.Clause{nil, nil})
	}
	holdContradiction(t, 3, []cnf.Clause{{}}, 2)
	holdContradiction(t, 3, []cnf.Clause{{1}, {-1, 2}, {}}, 3)
}

// TestP1501CloseWithLiteralsThatAreThereTwice: only those literals of a clause
// that are different from one another count.
func TestP1501CloseWithLiteralsThatAreThereTwice(t *testing.T) {
	holdClose(t, 2, []cnf.Clause{{2, 2}}, nil, 2)
	holdClose(t, 2, []cnf.Clause{{-2, -2, -2}}, nil, -2)
	holdContradiction(t, 2, []cnf.Clause{{-2, -2, -2}}, 2)
	holdContradiction(t, 2, []cnf.Clause{{1, 1}, {-1, -1}})
	for _, c := range []cnf.Clause{{1, 2, 2, 1}, {1, 1, 2, 2}, {2, 2, 1}, {1, 2, 1}, {2, 1, 2, 2}, {1, 2, 1, 2, 1, 2}} {
		holdClose(t, 2, []cnf.Clause{c}, nil)
		holdClose(t, 2, []cnf.Clause{c}, []int{-1}, -1, 2)
		holdClose(t, 2, []cnf.Clause{c}, []int{-2}, 1, -2)
		holdClose(t, 2, []cnf.Clause{c}, []int{2}, 2)
		holdContradiction(t, 2, []cnf.Clause{c}, -1, -2)
	}
	for _, c := range []cnf.Clause{{1, 2, 1, 3, 1}, {3, 3, 1, 2, 2, 3, 1, 1}, {2, 1, 3, 3, 2, 1}} {
		holdClose(t, 3, []cnf.Clause{c}, []int{-1}, -1)
		holdClose(t, 3, []cnf.Clause{c}, []int{-3}, -3)
		holdClose(t, 3, []cnf.Clause{c, {1, -2, -2}}, []int{-1}, -1, -2, 3)
		holdContradiction(t, 3, []cnf.Clause{c, {1, -2, -2}, {1, -3}}, -1)
	}
}

// TestP1501CloseWithClausesThatAlwaysHold: nothing follows from them.
func TestP1501CloseWithClausesThatAlwaysHold(t *testing.T) {
	for _, c := range []cnf.Clause{{1, -1}, {-1, 1}, {1, -1, 2}, {2, 1, -1}, {-1, 2, 1}, {1, 1, -1, -1}, {1, -1, 2, -2}, {-2, 1, 2}} {
		for _, lits := range [][]int{nil, {1}, {-1}, {2}, {-2}, {1, 2}, {1, -2}, {-1, 2}, {-1, -2}} {
			holdClose(t, 2, []cnf.Clause{c}, lits, lits...)
		}
		holdContradiction(t, 2, []cnf.Clause{c}, 1, -1)
	}
}

// TestP1501CloseSeesNoCases: what holds in every case but follows from no
// clause of which one literal remains is not there.
func TestP1501CloseSeesNoCases(t *testing.T) {
	holdClose(t, 4, []cnf.Clause{{1, 2}, {-1, 2}, {1, -2}, {-1, -2}}, nil)
	holdClose(t, 4, []cnf.Clause{{1, 2}, {-1, 2}}, nil)
	holdClose(t, 4, []cnf.Clause{{1, 2}, {-1, 2}}, []int{1}, 1, 2)
	holdContradiction(t, 4, []cnf.Clause{{1, 2}, {-1, 2}}, -2)
	holdContradiction(t, 4, []cnf.Clause{{1, 2}, {-1, 2}, {1, -2}, {-1, -2}}, -2)
	holdContradiction(t, 4, []cnf.Clause{{1, 2}, {-1, 2}, {1, -2}, {-1, -2}}, 1)
}

// chain returns clauses by which each variable follows from the one before it.
func chain(n int) []cnf.Clause {
	var l []cnf.Clause
	for v := 1; v < n; v++ {
		l = append(l, cnf.Clause{-v, v + 1})
	}
	return l
}

func TestP1501CloseAlongAChain(t *testing.T) {
	random := rand.New(rand.NewSource(1))
	n := api.MaxVars
	var up, down []int
	for v := 1; v <= n; v++ {
		up, down = append(up, v), append(down, -v)
	}
	l := chain(n)
	for range 20 {
		holdClose(t, n, l, []int{1}, up...)
		holdClose(t, n, l, []int{-n}, down...)
		holdClose(t, n, l, []int{100}, up[99:]...)
		holdClose(t, n, l, []int{-100}, down[:100]...)
		holdClose(t, n, append(l, cnf.Clause{1}), nil, up...)
		holdContradiction(t, n, l, 1, -n)
		holdContradiction(t, n, append(l, cnf.Clause{-n}, cnf.Clause{1}))
		holdContradiction(t, n, append(l, cnf.Clause{-n, -n, -1}), 1)
		random.Shuffle(len(l), func(i, k int) { l[i], l[k] = l[k], l[i] })
	}
	slices.SortFunc(l, func(a, b cnf.Clause) int { return b[1] - a[1] })
	holdClose(t, n, l, []int{1}, up...)
	holdClose(t, n, l, []int{-n}, down...)
}

// TestP1501CloseOfManyLongClauses: as many and as long ones as may be, of which
// a literal remains only at the end of a long chain.
func TestP1501CloseOfManyLongClauses(t *testing.T) {
	n := api.MaxVars
	var up []int
	var long cnf.Clause
	for v := 1; v <= n; v++ {
		up, long = append(up, v), append(long, -v)
	}
	links := chain(n - 1)
	slices.Reverse(links)
	l := slices.Repeat([]cnf.Clause{long}, api.MaxClauses-len(links)-1)
	holdClose(t, n, append(append(l, long), links...), []int{1}, append(slices.Clone(up[:n-1]), -n)...)
	holdContradiction(t, n, append(append(l, cnf.Clause{-n + 1, n}), links...), 1)
	holdClose(t, n, append(append(links, cnf.Clause{-1, -n + 1}), l...), nil)
	long[n/2] = n / 2
	holdClose(t, n, append(append(l, cnf.Clause{-n + 1, n}), links...), []int{1}, up...)
}

// closeByItsWords does what P1501 says of Close, word by word.
func closeByItsWords(n int, l []cnf.Clause, lits []int) ([]int, bool) {
	there := map[int]bool{}
	for _, lit := range lits {
		there[lit] = true
	}
	for before := -1; before < len(there); {
		before = len(there)
		for _, c := range l {
			for _, lit := range c {
				if !slices.ContainsFunc(c, func(other int) bool { return other != lit && !there[-other] }) {
					there[lit] = true
				}
			}
		}
	}
	for _, c := range l {
		if !slices.ContainsFunc(c, func(lit int) bool { return !there[-lit] }) {
			return nil, true
		}
	}
	var closed []int
	for v := 1; v <= n; v++ {
		if there[v] && there[-v] {
			return nil, true
		}
		for _, lit := range []int{v, -v} {
			if there[lit] {
				closed = append(closed, lit)
			}
		}
	}
	return closed, false
}

func TestP1501CloseByItsWordsOfAllShortLists(t *testing.T) {
	contradictions := 0
	short := sample.Clauses(2, 2)
	for _, a := range short {
		for _, b := range short {
			for _, c := range short {
				l := []cnf.Clause{a, b, c}
				for _, lits := range sample.Clauses(2, 2) {
					want, contradicts := closeByItsWords(2, l, lits)
					holdOutcome(t, 2, l, lits, want, contradicts)
					if contradicts {
						contradictions++
					}
				}
			}
		}
	}
	for _, c := range sample.Clauses(3, 4) {
		for _, lits := range sample.Clauses(3, 3) {
			want, contradicts := closeByItsWords(3, []cnf.Clause{c}, lits)
			holdOutcome(t, 3, []cnf.Clause{c}, lits, want, contradicts)
		}
	}
	if contradictions < 10000 {
		t.Errorf("only %d contradictions", contradictions)
	}
}

// drawn returns clauses over up to ten variables, and literals of these.
func drawn(random *rand.Rand) (int, []cnf.Clause, []int) {
	n, l := sample.DrawnClauses(random.Intn)
	return n, l, sample.Clause(random.Intn, 2, 1, n)
}

func TestP1501CloseByItsWords(t *testing.T) {
	random := rand.New(rand.NewSource(1501))
	contradictions, added := 0, map[int]int{}
	for range 30000 {
		n, l, lits := drawn(random)
		want, contradicts := closeByItsWords(n, l, lits)
		holdOutcome(t, n, l, lits, want, contradicts)
		if contradicts {
			contradictions++
		} else {
			added[len(want)-len(lits)]++
		}
	}
	if contradictions < 5000 || added[0] < 1000 || added[1] < 1000 || added[2] < 1000 || added[5] < 100 {
		t.Errorf("%d contradictions, literals that were added: %v", contradictions, added)
	}
}

// TestP1501WhatFollowsIsTrue in every model of the clauses in which the
// literals are true, and there is none after a contradiction.
func TestP1501WhatFollowsIsTrue(t *testing.T) {
	random := rand.New(rand.NewSource(1502))
	held := 0
	for range 3000 {
		n, l, lits := drawn(random)
		given := slices.Clone(l)
		for _, lit := range lits {
			given = append(given, cnf.Clause{lit})
		}
		closed, contradicts := prop.Close(n, l, lits)
		for _, m := range sample.Models(n) {
			if cnf.First(given, m) >= 0 {
				continue
			}
			held++
			if contradicts {
				t.Fatalf("Close(%d, %v, %v): a contradiction, though %v is a model", n, l, lits, m)
			}
			for _, lit := range closed {
				if !cnf.Holds(cnf.Clause{lit}, m) {
					t.Fatalf("Close(%d, %v, %v): %v, though %v is a model", n, l, lits, closed, m)
				}
			}
		}
	}
	if held < 10000 {
		t.Errorf("only %d models", held)
	}
}

// TestP1501TheOrderDoesNotCount: not that of the literals, nor of the clauses,
// nor of those in a clause.
func TestP1501TheOrderDoesNotCount(t *testing.T) {
	random := rand.New(rand.NewSource(1503))
	for range 3000 {
		n, l, lits := drawn(random)
		want, contradicts := prop.Close(n, l, lits)
		for range 3 {
			random.Shuffle(len(lits), func(i, k int) { lits[i], lits[k] = lits[k], lits[i] })
			random.Shuffle(len(l), func(i, k int) { l[i], l[k] = l[k], l[i] })
			for _, c := range l {
				random.Shuffle(len(c), func(i, k int) { c[i], c[k] = c[k], c[i] })
			}
			holdOutcome(t, n, l, lits, want, contradicts)
			holdOutcome(t, n, append(l, l...), append(lits, lits...), want, contradicts)
		}
		if !contradicts {
			holdClose(t, n, l, want, want...)
		}
	}
}
