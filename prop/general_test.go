package prop_test

import (
	"math"
	"slices"
	"testing"

	"manciple/api"
	"manciple/cnf"
	"manciple/prop"
	"manciple/sample"
)

// TestP1CountsThatAreNone: what is refused must not pass for a contradiction.
func TestP1CountsThatAreNone(t *testing.T) {
	for _, n := range []int{-1, -2, math.MinInt, -math.MaxInt, api.MaxVars + 1, 1 << 20, 1 << 48, math.MaxInt} {
		for _, l := range [][]cnf.Clause{nil, {{}}, {{1}}, {{1}, {-1}}, {{math.MinInt}}, {{0}}} {
			for _, lits := range [][]int{nil, {1}, {1, -1}, {-1, 0}, {n}, {-n}, {n, -n}} {
				holdClose(t, n, l, lits)
			}
		}
	}
}

func TestP1LiteralsThatAreNone(t *testing.T) {
	for _, n := range []int{0, 1, 3, api.MaxVars} {
		for _, lit := range []int{0, n + 1, -n - 1, n + 2, -n - 2, 1 << 32, -1 << 32, math.MaxInt, -math.MaxInt, math.MinInt, math.MinInt + 1} {
			holdClose(t, n, nil, []int{lit})
			holdClose(t, n, []cnf.Clause{{}}, []int{lit})
			holdClose(t, n, []cnf.Clause{{lit}}, nil)
			holdClose(t, n, []cnf.Clause{{lit}, {}}, []int{lit})
			holdClose(t, n, []cnf.Clause{{}, {-lit, lit}}, nil)
			if n > 0 {
				holdClose(t, n, []cnf.Clause{{1}}, []int{1, lit})
				holdClose(t, n, nil, []int{1, -1, lit})
				holdClose(t, n, nil, []int{lit, n, -n})
				holdClose(t, n, []cnf.Clause{{1}, {-1}, {n, lit, -1}}, []int{n})
			}
		}
	}
}

func TestP1ClausesBeyondTheLimits(t *testing.T) {
	long := slices.Repeat(cnf.Clause{1}, api.MaxClause)
	holdClose(t, 2, []cnf.Clause{long, {-1, 2}}, nil, 1, 2)
	holdClose(t, 2, []cnf.Clause{append(long, 1), {-1, 2}}, nil)
	holdClose(t, 2, []cnf.Clause{{2}, append(long, 1)}, []int{-2})
	many := slices.Repeat([]cnf.Clause{{1, 2}}, api.MaxClauses)
	holdClose(t, 2, many, []int{-2}, 1, -2)
	holdClose(t, 2, append(many, cnf.Clause{1, 2}), []int{-2})
	holdClose(t, 2, append(many, nil), nil)
	// of the literals there may be any number
	holdClose(t, 2, many, slices.Repeat([]int{-2}, 1<<20), 1, -2)
	prop.Units(append(many, make(cnf.Clause, 1<<20)))
}

func TestP1AnyLiterals(t *testing.T) {
	extremes := []int{0, 1, -1, 2, -2, 256, -256, 257, -257, math.MaxInt, -math.MaxInt, math.MinInt}
	for _, x := range extremes {
		for _, y := range extremes {
			for _, n := range extremes {
				for _, l := range [][]cnf.Clause{{{x, y, x}}, {{x}, nil, {y}}, {{x, y}, {-x, -y}, {x, -y}}} {
					_, err := cnf.CheckAll(n, append(l, cnf.Clause{y, x}))
					var want []int
					var contradicts bool
					if err == api.OK {
						want, contradicts = closeByItsWords(n, l, []int{y, x})
					}
					holdOutcome(t, n, l, []int{y, x}, want, contradicts)
					prop.Units(l)
				}
			}
		}
	}
}

func TestP2ArgumentsStayAsTheyAre(t *testing.T) {
	for _, given := range [][]cnf.Clause{
		nil, {nil}, {{1}}, {{2}}, {{-1, 2}, {-2, 3}}, {{-2, 3}, {-1, 2}, {3, 1, 3, -2, 1}}, {{1, 2, -1, 2}, {-3}, {4, 4, -3}}, {{0, 9}, {math.MinInt}}, chain(9),
	} {
		for _, start := range sample.Clauses(2, 2) {
			l := sample.SpacedClauses(given)
			lits := sample.SpacedClauses([]cnf.Clause{start})
			before, start := sample.StretchedClauses(l), sample.StretchedClauses(lits)
			prop.Close(9, l, lits[0])
			prop.Units(l)
			if after := sample.StretchedClauses(l); !cnf.Same(after, before) {
				t.Fatalf("%v is now %v", before, after)
			}
			if after := sample.StretchedClauses(lits); !cnf.Same(after, start) {
				t.Fatalf("%v is now %v", start, after)
			}
		}
	}
}

func TestP2ResultsAreNewMemory(t *testing.T) {
	l, lits := []cnf.Clause{{1}, {-1, 3}, {5}}, []int{2}
	for range 2 {
		one, _ := prop.Close(9, l, lits)
		other, _ := prop.Close(9, l, lits)
		sample.Spill(one, -9)
		if want := []int{1, 2, 3, 5}; !slices.Equal(other, want) {
			t.Errorf("Close: %v; want %v: two results share memory", other, want)
		}
		units, more := prop.Units(l), prop.Units(l)
		sample.Spill(units, -9)
		if want := []int{1, 5}; !slices.Equal(more, want) {
			t.Errorf("Units: %v; want %v: two results share memory", more, want)
		}
		if !cnf.Same(l, []cnf.Clause{{1}, {-1, 3}, {5}}) || !slices.Equal(lits, []int{2}) {
			t.Fatalf("%v and %v share memory with what was written over", l, lits)
		}
	}
	// also where the answer is what was given
	given := []int{1, 2, 3}
	same, _ := prop.Close(3, nil, given)
	sample.Spill(same, -9)
	if !slices.Equal(given, []int{1, 2, 3}) {
		t.Errorf("Close: the result lies in the argument, which is now %v", given)
	}
}

func TestP2NilIsAsEmpty(t *testing.T) {
	holdClose(t, 3, []cnf.Clause{}, []int{})
	holdClose(t, 3, []cnf.Clause{{2}}, []int{}, 2)
	holdContradiction(t, 3, []cnf.Clause{nil})
	holdContradiction(t, 3, []cnf.Clause{{}})
	holdUnits(t, []cnf.Clause{})
	holdUnits(t, []cnf.Clause{nil, {}, {1}}, 1)
}

func TestP3SameCallsSameResults(t *testing.T) {
	l := []cnf.Clause{{-1, 2}, {-2, 3}, {-3, -4}, {5}}
	for range 5 {
		holdContradiction(t, 5, l, 1, 4) // what is raised leaves nothing behind
		holdClose(t, 4, l, []int{1})
		holdClose(t, 5, l, []int{1, 9})
		holdClose(t, 5, l, []int{1}, 1, 2, 3, -4, 5)
		holdClose(t, 5, l, []int{4}, -1, -2, -3, 4, 5)
		holdClose(t, 5, l, nil, 5)
		holdUnits(t, l, 5)
	}
}
