package rup_test

import (
	"math"
	"slices"
	"testing"

	"manciple/api"
	"manciple/cnf"
	"manciple/rup"
	"manciple/sample"
)

var extremes = []int{0, 1, -1, 2, -2, 256, -256, 257, -257, math.MaxInt, -math.MaxInt, math.MinInt}

// TestP1AnyLiterals calls Follows with what it need not accept (P8), too.
func TestP1AnyLiterals(t *testing.T) {
	for _, x := range extremes {
		for _, y := range extremes {
			for _, n := range extremes {
				for _, l := range [][]cnf.Clause{nil, {{}}, {{x, y, x}}, {{x}, nil, {y}}, {{x, y}, {-x, -y}, {x, -y}}} {
					for _, c := range []cnf.Clause{nil, {x}, {y, -x}, {-y, x, y}} {
						rup.Follows(n, l, c)
						proof := []cnf.Clause{{1, -1}, c, {}}
						index, want := checkByItsWords(n, l, proof)
						holdCheck(t, n, l, proof, index, want)
						holdEnds(t, n, l, proof, nil, want == api.OK)
						holdEnds(t, n, l, proof, cnf.Clause{0}, false)
					}
				}
			}
		}
	}
}

func TestP1ListsBeyondTheLimits(t *testing.T) {
	long := make(cnf.Clause, 1<<20)
	many := slices.Repeat([]cnf.Clause{{math.MinInt}, nil, {1, -2}, {2}, make(cnf.Clause, 300)}, api.MaxClauses/3)
	for _, n := range []int{-1, 0, 2, 256, 257, math.MinInt, math.MaxInt} {
		rup.Follows(n, many, nil)
		rup.Follows(n, many, cnf.Clause{1})
		rup.Follows(n, many, long)
		rup.Follows(n, []cnf.Clause{long}, long)
		index, want := checkByItsWords(n, four(), many)
		holdCheck(t, n, four(), many, index, want)
		holdEnds(t, n, many, []cnf.Clause{long}, long, false)
		holdEnds(t, n, four(), many, long, false)
	}
}

func TestP2ArgumentsStayAsTheyAre(t *testing.T) {
	lists := [][]cnf.Clause{
		nil, {nil}, {{1}}, {{-1, 2}, {-2, 3}}, four(), four()[:3], {{1}, {}}, {{}, {2, 1, 2}, {1, -1}}, {{3, 1, 3, -2, 1}, {4}}, {{0, 9}, {math.MinInt}}, chain(9),
	}
	for _, clauses := range lists {
		for _, steps := range lists {
			for _, c := range []cnf.Clause{nil, {1}, {2, 1, 2}, {-1, 3}, {4}, {8, 9}, {0}} {
				l, proof, ends := sample.SpacedClauses(clauses), sample.SpacedClauses(steps), sample.SpacedClauses([]cnf.Clause{c})
				all := [][]cnf.Clause{l, proof, ends}
				var before [][]cnf.Clause
				for _, given := range all {
					before = append(before, sample.StretchedClauses(given))
				}
				rup.Follows(9, l, ends[0])
				rup.Check(9, l, proof)
				rup.Ends(9, l, proof, ends[0])
				for i, given := range all {
					if after := sample.StretchedClauses(given); !cnf.Same(after, before[i]) {
						t.Fatalf("%v is now %v", before[i], after)
					}
				}
			}
		}
	}
}

// TestP2ListsThatShareMemory: the steps may be what lies beyond the clauses.
func TestP2ListsThatShareMemory(t *testing.T) {
	all := append(four(), cnf.Clause{1}, nil, cnf.Clause{2, 1}, nil)
	for range 2 {
		holdCheck(t, 2, all[:4], all[4:], 0, api.OK)
		holdCheck(t, 2, all[:4], all[5:], 0, api.ErrProof)
		holdCheck(t, 2, all[:4], all[:5], 0, api.OK)
		holdCheck(t, 2, all[:3], all, 3, api.ErrProof)
		holdCheck(t, 2, all[:4], all, 0, api.OK)
		holdEnds(t, 2, all[:4], all[4:6], all[5], true)
		holdFollows(t, 2, all[:5], all[5], true)
		holdFollows(t, 2, all[:4], all[0], true)
	}
}

func TestP2NothingIsKept(t *testing.T) {
	l, proof := four(), []cnf.Clause{{1}, {}}
	holdCheck(t, 2, l, proof, 0, api.OK)
	l[3][1], proof[0][0] = 2, 2
	holdCheck(t, 2, l, proof, 1, api.ErrProof)
	l[3][1], proof[0][0] = -2, -1
	holdCheck(t, 2, l, proof, 0, api.OK)
	proof[0] = nil
	holdCheck(t, 2, l, proof, 0, api.ErrProof)
	holdEnds(t, 2, l, proof, nil, false)
	holdFollows(t, 2, l, nil, false)
}

func TestP2NilIsAsEmpty(t *testing.T) {
	for _, none := range [][]cnf.Clause{nil, {}} {
		for _, empty := range []cnf.Clause{nil, {}} {
			holdFollows(t, 3, none, empty, false)
			holdFollows(t, 3, []cnf.Clause{empty}, empty, true)
			holdCheck(t, 3, none, none, 0, api.OK)
			holdCheck(t, 3, none, []cnf.Clause{empty}, 0, api.ErrProof)
			holdCheck(t, 3, []cnf.Clause{empty}, []cnf.Clause{empty}, 0, api.OK)
			holdEnds(t, 3, []cnf.Clause{empty}, none, empty, false)
			holdEnds(t, 3, []cnf.Clause{empty}, []cnf.Clause{{}}, empty, true)
		}
	}
}

func TestP3SameCallsSameResults(t *testing.T) {
	for range 5 {
		holdCheck(t, 2, four(), []cnf.Clause{{1}, {3}}, 1, api.ErrLit) // what is raised leaves nothing behind
		holdCheck(t, 2, four(), []cnf.Clause{{}}, 0, api.ErrProof)
		holdCheck(t, 2, four()[:3], []cnf.Clause{{1}, {}}, 1, api.ErrProof)
		holdCheck(t, 1, four(), nil, 0, api.ErrLit)
		holdCheck(t, 2, four(), []cnf.Clause{{1}, {}}, 0, api.OK)
		holdEnds(t, 2, four(), []cnf.Clause{{1}, {}}, nil, true)
		holdEnds(t, 2, four(), []cnf.Clause{{}}, nil, false)
		holdFollows(t, 2, four(), cnf.Clause{1}, true)
		holdFollows(t, 2, four(), nil, false)
	}
}
