package rup_test

import (
	"math"
	"math/rand"
	"slices"
	"testing"

	"manciple/api"
	"manciple/cnf"
	"manciple/rup"
	"manciple/sample"
)

func holdCheck(t *testing.T, n int, l, proof []cnf.Clause, index int, want api.Errno) {
	t.Helper()
	if i, err := rup.Check(n, l, proof); i != index || err != want {
		t.Errorf("Check(%d, %s, %s): %d, %v; want %d, %v", n, shown(l), shown(proof), i, err, index, want)
	}
}

// holdProof tells whether it is a proof, and each beginning of it, too.
func holdProof(t *testing.T, n int, l []cnf.Clause, proof ...cnf.Clause) {
	t.Helper()
	for i := range len(proof) + 1 {
		holdCheck(t, n, l, proof[:i], 0, api.OK)
	}
}

func TestP1601Check(t *testing.T) {
	// the example of the chapter
	holdProof(t, 2, four(), cnf.Clause{1}, nil)
	holdCheck(t, 2, four(), []cnf.Clause{{}}, 0, api.ErrProof)
	// other ways to the same end
	holdProof(t, 2, four(), cnf.Clause{-2}, nil)
	holdProof(t, 2, four(), cnf.Clause{2}, cnf.Clause{1, 2, 1}, nil, nil)
	holdProof(t, 2, four(), cnf.Clause{1, 2}, cnf.Clause{-1, 1}, cnf.Clause{-1}, cnf.Clause{2}, nil)
	// after the empty clause everything follows
	holdProof(t, 2, four(), cnf.Clause{1}, nil, cnf.Clause{-1}, cnf.Clause{1, 2}, nil)
	holdProof(t, 9, []cnf.Clause{{}}, cnf.Clause{-9}, cnf.Clause{9}, cnf.Clause{4, -7})
	// a proof need not lead to the empty clause
	holdProof(t, 4, chain(4), cnf.Clause{-1, 3}, cnf.Clause{4, -1}, cnf.Clause{-2, 4, 1})
	holdProof(t, 2, four()[:3], cnf.Clause{1}, cnf.Clause{2}, cnf.Clause{1, 2})
	// the index is that of the step
	holdCheck(t, 2, four()[:3], []cnf.Clause{{1}, {}}, 1, api.ErrProof)
	holdCheck(t, 2, four()[:3], []cnf.Clause{{1}, {-2}}, 1, api.ErrProof)
	holdCheck(t, 2, four()[:3], []cnf.Clause{{2}, {1}, {1, 2}, {-1, -2}, {}}, 3, api.ErrProof)
	holdCheck(t, 4, chain(4), []cnf.Clause{{-1, 3}, {-1, 4}, {-1, -4}, {1}}, 2, api.ErrProof)
}

func TestP1601CheckOfNoSteps(t *testing.T) {
	for _, l := range [][]cnf.Clause{nil, {nil}, {{1}}, four(), chain(9)} {
		holdCheck(t, 9, l, nil, 0, api.OK)
		holdCheck(t, 9, l, []cnf.Clause{}, 0, api.OK)
	}
	holdCheck(t, 0, nil, nil, 0, api.OK)
	holdCheck(t, 0, nil, []cnf.Clause{{}}, 0, api.ErrProof)
	holdCheck(t, 0, []cnf.Clause{{}}, []cnf.Clause{{}, {}}, 0, api.OK)
	holdCheck(t, 9, nil, []cnf.Clause{{3, -3}, {-1, 2, 1}}, 0, api.OK)
	holdCheck(t, 9, nil, []cnf.Clause{{3, -3}, {-1, 2, 1}, {1, 2}}, 2, api.ErrProof)
}

// TestP1601CheckGoesByTheStepsBefore: neither by a step itself nor by a later
// one, and by all of those before it.
func TestP1601CheckGoesByTheStepsBefore(t *testing.T) {
	l := []cnf.Clause{{1, 2, 3}, {1, 2, -3}, {1, -2, 3}, {1, -2, -3}, {-1, 4, 5}, {-1, 4, -5}, {-1, -4, 5}, {-1, -4, -5}}
	proof := []cnf.Clause{{1, 2}, {1}, {4}, {}}
	holdProof(t, 5, l, proof...)
	for i := range proof[:3] {
		// the step after the one that is missing does not follow
		holdCheck(t, 5, l, slices.Delete(slices.Clone(proof), i, i+1), i, api.ErrProof)
		// nor does it if that one comes only later
		swapped := slices.Clone(proof)
		swapped[i], swapped[i+1] = swapped[i+1], swapped[i]
		holdCheck(t, 5, l, swapped, i, api.ErrProof)
		// nor if it does not follow and is there twice
		holdCheck(t, 5, l, slices.Repeat(proof[i+1:i+2], 2), 0, api.ErrProof)
	}
	// some step far before is as good as the last one
	far := append(slices.Clone(proof[:3]), slices.Repeat([]cnf.Clause{{2, 1, 2}, {5, -5}}, 50)...)
	holdCheck(t, 5, l, append(far, nil), 0, api.OK)
	// each clause counts
	for i := range l {
		without := slices.Delete(slices.Clone(l), i, i+1)
		if at, err := rup.Check(5, without, proof); err != api.ErrProof {
			t.Errorf("Check without clause %d: %d, %v; want %v", i, at, err, api.ErrProof)
		}
	}
}

func TestP1601CheckOfTheClauses(t *testing.T) {
	long := slices.Repeat(cnf.Clause{1}, api.MaxClause+1)
	steps := [][]cnf.Clause{nil, {{1}}, {{}}, {{9}}, {{1}, {0}}, {{1}, long}}
	for _, proof := range steps {
		for _, n := range []int{-1, -2, math.MinInt, api.MaxVars + 1, 1 << 32, math.MaxInt} {
			// ahead of what is wrong with the clauses and the steps
			for _, l := range [][]cnf.Clause{nil, four(), {{0}}, {long}, {{1}, {math.MinInt}}} {
				holdCheck(t, n, l, proof, 0, api.ErrArg)
			}
		}
		for at := range 4 {
			// at index 0, not at that of the clause
			for _, lit := range []int{0, 3, -3, 1 << 32, math.MaxInt, math.MinInt} {
				l := four()
				l[at] = cnf.Clause{1, lit}
				holdCheck(t, 2, l, proof, 0, api.ErrLit)
				holdCheck(t, 2, append(l, long), proof, 0, api.ErrLit)
			}
			l := four()
			l[at] = long
			holdCheck(t, 2, l, proof, 0, api.ErrLong)
			holdCheck(t, 2, append(l, cnf.Clause{0}), proof, 0, api.ErrLong)
		}
		// the clauses are refused also where everything follows
		holdCheck(t, 2, []cnf.Clause{{}, {1}, {3}}, proof, 0, api.ErrLit)
		many := make([]cnf.Clause, api.MaxClauses+1)
		holdCheck(t, 2, many, proof, 0, api.ErrLong)
		many[1] = cnf.Clause{0}
		holdCheck(t, 2, many, proof, 0, api.ErrLong)
	}
	holdCheck(t, 1, four(), []cnf.Clause{{1}}, 0, api.ErrLit)
	holdCheck(t, 0, four(), []cnf.Clause{{1}}, 0, api.ErrLit)
}

func TestP1601CheckOfTheSteps(t *testing.T) {
	long := slices.Repeat(cnf.Clause{1, 2}, api.MaxClause)
	for _, c := range []struct {
		wrong cnf.Clause
		want  api.Errno
	}{
		{cnf.Clause{0}, api.ErrLit},
		{cnf.Clause{3}, api.ErrLit},
		{cnf.Clause{-3}, api.ErrLit},
		{cnf.Clause{1, 2, -3, 2}, api.ErrLit},
		{cnf.Clause{1, -1, 0}, api.ErrLit},
		{cnf.Clause{math.MinInt}, api.ErrLit},
		{cnf.Clause{math.MaxInt, -math.MaxInt}, api.ErrLit},
		{cnf.Clause{1<<32 + 1}, api.ErrLit},
		{long[:api.MaxClause+1], api.ErrLong},
		{long, api.ErrLong},
		{make(cnf.Clause, api.MaxClause+1), api.ErrLong}, // the length ahead of the literals
		{make(cnf.Clause, api.MaxClause), api.ErrLit},
		{long[:api.MaxClause], api.OK},
		{cnf.Clause{-1, -2}, api.OK},
	} {
		for at := range 5 {
			proof := []cnf.Clause{{1}, {2}, {}, {-1}, {}}
			proof[at] = c.wrong
			index := at
			if c.want == api.OK {
				proof, index = proof[:at+1], 0
			}
			holdCheck(t, 2, four(), proof, index, c.want)
			// also where everything follows
			holdCheck(t, 2, []cnf.Clause{{}}, proof, index, c.want)
		}
	}
}

// TestP1601CheckGoesStepByStep: the first step that has an error decides,
// whichever error it is.
func TestP1601CheckGoesStepByStep(t *testing.T) {
	long := slices.Repeat(cnf.Clause{1, 2}, api.MaxClause)
	wrong := map[api.Errno]cnf.Clause{api.ErrLong: long, api.ErrLit: {1, 3}, api.ErrProof: {-3, -1}}
	n, l := 3, four()[:3]
	l = append(l, cnf.Clause{3})
	for first, a := range wrong {
		if first == api.ErrLit {
			a = cnf.Clause{1, 4}
		}
		for _, b := range wrong {
			holdCheck(t, n, l, []cnf.Clause{a, b}, 0, first)
			holdCheck(t, n, l, []cnf.Clause{{1}, a, b}, 1, first)
			holdCheck(t, n, l, []cnf.Clause{{1}, {2}, a, {3}, b, a}, 2, first)
		}
	}
}

// TestP1601CheckOfMoreThanMaxClauses: the clauses and the steps may together
// be more than the clauses alone may be.
func TestP1601CheckOfMoreThanMaxClauses(t *testing.T) {
	for _, fill := range []int{api.MaxClauses - 5, api.MaxClauses - 4} {
		l := append(slices.Repeat([]cnf.Clause{{3, 4}}, fill), four()...)
		holdCheck(t, 4, l, []cnf.Clause{{1}, {}, {-3}, {}}, 0, api.OK)
		holdCheck(t, 4, l, []cnf.Clause{{1, 2}, {}, {1}}, 1, api.ErrProof)
		holdCheck(t, 4, l, []cnf.Clause{{1}, {5}}, 1, api.ErrLit)
	}
}

// TestP1601CheckByClausesAndStepsInTurn: what follows from the last step comes
// by a clause, a step, a clause, and so on.
func TestP1601CheckByClausesAndStepsInTurn(t *testing.T) {
	n, other, vars := 20, 21, 23
	var l, steps []cnf.Clause
	for v := 1; v < n; v++ {
		if v%2 > 0 {
			l = append(l, cnf.Clause{-v, v + 1})
			continue
		}
		l = append(l, cnf.Clause{-v, v + 1, other}, cnf.Clause{-v, v + 1, -other})
		steps = append(steps, cnf.Clause{-v, v + 1})
	}
	for _, fill := range []int{0, 1, api.MaxClauses - len(l)} {
		full := append(slices.Repeat([]cnf.Clause{{-1, 22, n, 23}}, fill), l...)
		holdCheck(t, vars, full, append(slices.Clone(steps), cnf.Clause{-1, n}), 0, api.OK)
		// what one step bridges follows from both ends, what two do does not
		holdCheck(t, vars, full, append(slices.Clone(steps[1:]), cnf.Clause{-1, n}), 0, api.OK)
		holdCheck(t, vars, full, append(slices.Clone(steps[2:]), cnf.Clause{-1, n}), len(steps)-2, api.ErrProof)
		slices.Reverse(steps)
		holdCheck(t, vars, full, append(slices.Clone(steps), cnf.Clause{n, -1}), 0, api.OK)
	}
}

// cases returns steps that go through all cases of n variables: the clauses of
// which each excludes one, then those of one variable less, up to the empty one.
func cases(n int) []cnf.Clause {
	var proof []cnf.Clause
	for k := n; k >= 0; k-- {
		for _, m := range sample.Models(k) {
			proof = append(proof, excluding(m))
		}
	}
	return proof
}

func excluding(m []bool) cnf.Clause {
	var c cnf.Clause
	for i, is := range m {
		if is {
			c = append(c, -i-1)
		} else {
			c = append(c, i+1)
		}
	}
	return c
}

// TestP1601CheckOfAllCases: they are a proof if there is no model, and if there
// is one, the first of them is what does not follow (T3).
func TestP1601CheckOfAllCases(t *testing.T) {
	random := rand.New(rand.NewSource(1603))
	told := map[int]int{}
	for range 3000 {
		n := 1 + random.Intn(4)
		var l []cnf.Clause
		for range random.Intn(7 * n) {
			if c := sample.Clause(random.Intn, 3, 1, n); len(c) > 1 {
				l = append(l, c)
			}
		}
		index := slices.IndexFunc(sample.Models(n), func(m []bool) bool { return cnf.First(l, m) < 0 })
		if index < 0 {
			holdCheck(t, n, l, cases(n), 0, api.OK)
			holdEnds(t, n, l, cases(n), nil, true)
		} else {
			holdCheck(t, n, l, cases(n), index, api.ErrProof)
			holdEnds(t, n, l, cases(n), nil, false)
		}
		told[index]++
	}
	for index := -1; index < 8; index++ {
		if told[index] < 10 {
			t.Errorf("%d came up %d times only", index, told[index])
		}
	}
}

// checkByItsWords does what P1601 says of Check, word by word.
func checkByItsWords(n int, l, proof []cnf.Clause) (int, api.Errno) {
	if _, err := cnf.CheckAll(n, l); err != api.OK {
		return 0, err
	}
	for i, step := range proof {
		if err := cnf.Check(n, step); err != api.OK {
			return i, err
		}
		if !followsByItsWords(n, slices.Concat(l, proof[:i]), step) {
			return i, api.ErrProof
		}
	}
	return 0, api.OK
}

// drawnProof returns steps of which most follow from l and those before them.
func drawnProof(random *rand.Rand, n int, l []cnf.Clause) []cnf.Clause {
	var proof []cnf.Clause
	for range random.Intn(8) {
		step := sample.Clause(random.Intn, 4, 1, n)
		for try := 0; try < 20 && !followsByItsWords(n, slices.Concat(l, proof), step); try++ {
			step = sample.Clause(random.Intn, 4, 1, n)
		}
		switch random.Intn(60) {
		case 0:
			step = append(step, n+1)
		case 1:
			step = append(step, make(cnf.Clause, 300)...)
		case 2:
			step = sample.Clause(random.Intn, 4, 1, n)
		}
		proof = append(proof, step)
	}
	return proof
}

func TestP1601CheckByItsWords(t *testing.T) {
	random := rand.New(rand.NewSource(1604))
	told, at := map[api.Errno]int{}, map[int]int{}
	for range 10000 {
		n, l := sample.DrawnClauses(random.Intn)
		proof := drawnProof(random, n, l)
		if random.Intn(50) == 0 {
			n = random.Intn(n+1) - 1
		}
		index, want := checkByItsWords(n, l, proof)
		holdCheck(t, n, l, proof, index, want)
		told[want]++
		at[index]++
	}
	for _, err := range []api.Errno{api.OK, api.ErrArg, api.ErrLong, api.ErrLit, api.ErrProof} {
		if told[err] < 10 {
			t.Errorf("%v came up %d times only", err, told[err])
		}
	}
	for index := range 5 {
		if at[index] < 20 {
			t.Errorf("index %d came up %d times only", index, at[index])
		}
	}
}

// TestP1601WhatIsProvedIsTrue: each step of a proof holds in every model of the
// clauses (T3).
func TestP1601WhatIsProvedIsTrue(t *testing.T) {
	random := rand.New(rand.NewSource(1605))
	held := 0
	for range 2000 {
		n, l := sample.DrawnClauses(random.Intn)
		proof := drawnProof(random, n, l)
		if _, err := rup.Check(n, l, proof); err != api.OK {
			continue
		}
		for _, m := range sample.Models(n) {
			if cnf.First(l, m) >= 0 {
				continue
			}
			held += len(proof)
			if i := cnf.First(proof, m); i >= 0 {
				t.Fatalf("Check(%d, %v, %v), though step %d does not hold in the model %v", n, l, proof, i, m)
			}
		}
	}
	if held < 1000 {
		t.Errorf("only %d steps in models", held)
	}
}
