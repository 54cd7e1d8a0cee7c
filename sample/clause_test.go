package sample_test

import (
	"fmt"
	"math/rand"
	"slices"
	"testing"

	"manciple/api"
	"manciple/cnf"
	"manciple/sample"
)

func TestClause(t *testing.T) {
	random := rand.New(rand.NewSource(1))
	lengths, literals := map[int]bool{}, map[int]bool{}
	for range 1000 {
		c := sample.Clause(random.Intn, 3, 2, 4)
		lengths[len(c)] = true
		for _, lit := range c {
			literals[lit] = true
		}
	}
	if got, want := fmt.Sprint(lengths, literals), "map[0:true 1:true 2:true 3:true] map[-4:true -3:true -2:true 2:true 3:true 4:true]"; got != want {
		t.Errorf("lengths and literals: %s; want %s", got, want)
	}
}

func TestDrawnClauses(t *testing.T) {
	random := rand.New(rand.NewSource(1))
	counts, withEmpty, withModel := map[int]int{}, 0, 0
	for range 2000 {
		n, l := sample.DrawnClauses(random.Intn)
		counts[n]++
		if i, err := cnf.CheckAll(n, l); err != api.OK {
			t.Fatalf("DrawnClauses: %d, %v: clause %d: %v", n, l, i, err)
		}
		if slices.ContainsFunc(l, func(c cnf.Clause) bool { return len(c) == 0 }) {
			withEmpty++
		}
		if slices.ContainsFunc(sample.Models(n), func(m []bool) bool { return cnf.First(l, m) < 0 }) {
			withModel++
		}
	}
	if len(counts) != 10 || counts[1] < 100 || counts[10] < 100 {
		t.Errorf("variables: %v", counts)
	}
	if withEmpty < 20 || withModel < 300 || withModel > 1700 {
		t.Errorf("%d with an empty clause, %d with a model", withEmpty, withModel)
	}
}

func TestClausesAndModels(t *testing.T) {
	if got, want := sample.Clauses(1, 2), []cnf.Clause{nil, {-1}, {1}, {-1, -1}, {-1, 1}, {1, -1}, {1, 1}}; !cnf.Same(got, want) {
		t.Errorf("Clauses: %v; want %v", got, want)
	}
	different := map[string]bool{}
	for _, c := range sample.Clauses(2, 3) {
		different[fmt.Sprint(c)] = true
	}
	if len(different) != 1+4+16+64 {
		t.Errorf("Clauses: %d", len(different))
	}
	if got, want := fmt.Sprint(sample.Models(2), sample.Models(0)), "[[false false] [false true] [true false] [true true]] [[]]"; got != want {
		t.Errorf("Models: %s; want %s", got, want)
	}
}

func TestStretchedClausesTellEveryChange(t *testing.T) {
	given := []cnf.Clause{{1, -2}, nil}
	for i, change := range []func(l []cnf.Clause){
		func(l []cnf.Clause) { l[0][1] = 2 },
		func(l []cnf.Clause) { l[1] = cnf.Clause{1} },
		func(l []cnf.Clause) { overwrite(l) },
		func(l []cnf.Clause) { overwrite(l[0]) },
		func(l []cnf.Clause) { overwrite(l[1]) },
	} {
		l := sample.SpacedClauses(given)
		if !cnf.Same(l, given) {
			t.Fatalf("SpacedClauses: %v; want %v", l, given)
		}
		before := sample.StretchedClauses(l)
		if !cnf.Same(sample.StretchedClauses(l), before) {
			t.Fatal("StretchedClauses: a change though there was none")
		}
		if change(l); cnf.Same(sample.StretchedClauses(l), before) {
			t.Errorf("StretchedClauses does not tell change %d", i)
		}
	}
}
