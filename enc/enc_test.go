package enc_test

import (
	"fmt"
	"math/rand"
	"slices"
	"testing"

	"manciple/api"
	"manciple/ask"
	"manciple/cnf"
	"manciple/enc"
	"manciple/lock"
	"manciple/repo"
	"manciple/rule"
	"manciple/sample"
	"manciple/valid"
)

func shown(x any) string { return fmt.Sprintf("%.400s", fmt.Sprint(x)) }

func sameTagged(a, b []enc.Tagged) bool {
	return slices.EqualFunc(a, b, func(x, y enc.Tagged) bool { return x.Rule == y.Rule && slices.Equal(x.Clause, y.Clause) })
}

func holdAll(t *testing.T, r repo.Repo, k lock.Lock, l []ask.Ask, want ...enc.Tagged) {
	t.Helper()
	if got := enc.All(r, k, l); !sameTagged(got, want) {
		t.Errorf("All: %d, %s; want %d, %s", len(got), shown(got), len(want), shown(want))
	}
}

func TestP1401All(t *testing.T) {
	r, l := sample.Mixed()
	// packages: 1 a 1, 2 a 2, 3 b 1, 4 b 2, 5 c 0
	want := []enc.Tagged{
		{0, cnf.Clause{-1, -2}},
		{1, cnf.Clause{-3, -4}},
		// 2: only one c, since there is only one; 4: a 1 needs a, which it is
		{3, cnf.Clause{-1, 3, 4, 5}},
		{5, cnf.Clause{-2, -3}},
		{5, cnf.Clause{-2, -4}},
		{6, cnf.Clause{-1, -2}},
		{7, cnf.Clause{-2, -5}},
		{8, cnf.Clause{-3, 5}},
		// 9: b 1 refuses v (= 1), which only it provides
		{10, cnf.Clause{5}},
		{11, cnf.Clause{-3}},
		{11, cnf.Clause{-4}},
		{12, cnf.Clause{1, 2}},
		{13, cnf.Clause{-4}},
	}
	holdAll(t, r, nil, l, want...)
	want[11].Clause = cnf.Clause{2}
	holdAll(t, r, sample.Installed("a 1"), l, want...)
	want[11].Clause = nil
	holdAll(t, r, sample.Installed("a 2", "b 1"), l, want...)
}

func TestP1401AllOfLittle(t *testing.T) {
	holdAll(t, nil, nil, nil)
	holdAll(t, nil, sample.Installed("a 1"), nil)
	holdAll(t, nil, nil, sample.Requests("remove a", "install a", "pin a (none)", "upgrade a"), enc.Tagged{Rule: 1}, enc.Tagged{Rule: 3})
	holdAll(t, sample.Packages("a 1"), nil, nil)
	holdAll(t, sample.Packages("a 1"), nil, sample.Requests("install a"), enc.Tagged{1, cnf.Clause{1}})
	// rules that are the same have their clauses each
	holdAll(t, sample.Packages("a 1 / Depends: z; z"), nil, sample.Requests("remove a", "remove a"),
		enc.Tagged{1, cnf.Clause{-1}}, enc.Tagged{2, cnf.Clause{-1}}, enc.Tagged{3, cnf.Clause{-1}}, enc.Tagged{4, cnf.Clause{-1}})
}

// allByItsWords does what P1401 says of All, word by word.
func allByItsWords(r repo.Repo, k lock.Lock, l []ask.Ask) []enc.Tagged {
	var tagged []enc.Tagged
	for number, x := range rule.All(r, l) {
		for _, c := range ruleByItsWords(x, r, k, l) {
			tagged = append(tagged, enc.Tagged{number, c})
		}
	}
	return tagged
}

func TestP1401AllByItsWords(t *testing.T) {
	random := rand.New(rand.NewSource(14))
	n := 0
	for range 2000 {
		r, k, l := sample.Drawn(random.Intn)
		want := allByItsWords(r, k, l)
		holdAll(t, r, k, l, want...)
		n += len(want)
	}
	if n < 5000 {
		t.Errorf("only %d clauses", n)
	}
}

// crowded returns n packages of one name, each of which refuses all others n
// times and needs what there is not.
func crowded(n, times int) repo.Repo {
	p := sample.Packages("a 0 / Depends: z / Conflicts: a")[0]
	p.Depends = slices.Repeat(p.Depends, times)
	p.Conflicts = slices.Repeat(p.Conflicts, times)
	r := slices.Repeat(repo.Repo{p}, n)
	for i := range r {
		r[i].Ver = fmt.Sprint(i)
	}
	return r
}

func TestP1401AllAtTheLimits(t *testing.T) {
	r, l := sample.Full()
	n := api.MaxPkgs * api.MaxDeps
	full := enc.All(r, nil, l)
	if len(full) != n+api.MaxAsks {
		t.Errorf("All: %d clauses; want one for each of %d dependencies and each request", len(full), n)
	}
	r, l = crowded(api.MaxPkgs, api.MaxDeps), slices.Repeat(sample.Requests("remove a"), api.MaxAsks)
	if i, err := repo.Check(r); err != api.OK {
		t.Fatal(i, err)
	}
	want := allByItsWords(r, nil, l)
	if n := 64*63/2 + 64*16 + 64*16*63 + 32*64; len(want) != n {
		t.Fatalf("%d clauses; want %d", len(want), n)
	}
	holdAll(t, r, nil, l, want...)
}

// TestP1401AllHoweverMany: there are more clauses than cnf.CheckAll accepts.
// (So many come only of more packages than repo.Check accepts.)
func TestP1401AllHoweverMany(t *testing.T) {
	n := 520
	all := enc.All(crowded(n, 0), nil, nil)
	if len(all) != n*(n-1)/2 || len(all) <= api.MaxClauses {
		t.Fatalf("All: %d clauses; want %d", len(all), n*(n-1)/2)
	}
	if last := all[len(all)-1]; last.Rule != 0 || !slices.Equal(last.Clause, cnf.Clause{-(n - 1), -n}) {
		t.Errorf("All: the last one is %v", last)
	}
}

// clausesOf leaves out the numbers of the rules.
func clausesOf(tagged []enc.Tagged) []cnf.Clause {
	var l []cnf.Clause
	for _, x := range tagged {
		l = append(l, x.Clause)
	}
	return l
}

func TestP1401AllAreClauses(t *testing.T) {
	random := rand.New(rand.NewSource(15))
	for range 2000 {
		r, k, l := sample.Drawn(random.Intn)
		clauses := clausesOf(enc.All(r, k, l))
		if i, err := cnf.CheckAll(len(r), clauses); err != api.OK {
			t.Fatalf("CheckAll of %s: %d, %v", shown(clauses), i, err)
		}
		for _, c := range clauses {
			if normed, some := cnf.Norm(c); !some || !slices.Equal(normed, c) {
				t.Fatalf("%v has the form %v, %v", c, normed, some)
			}
		}
	}
}

// TestP1401AllHoldWhereTheSetIsValid is T1 as far as the clauses bear on it.
func TestP1401AllHoldWhereTheSetIsValid(t *testing.T) {
	random := rand.New(rand.NewSource(16))
	fine, wrong := 0, 0
	for range 2000 {
		r, k, l := sample.Drawn(random.Intn)
		all := enc.All(r, k, l)
		for bits := range 1 << len(r) {
			set := sample.Subset(bits, len(r))
			m := enc.Model(set, len(r))
			var broken []int
			for _, x := range all {
				if !cnf.Holds(x.Clause, m) {
					broken = append(broken, x.Rule)
				}
			}
			if want := valid.Broken(r, k, l, set); !slices.Equal(slices.Compact(broken), want) {
				t.Fatalf("%v breaks the clauses of the rules %v; it breaks the rules %v", set, broken, want)
			}
			if len(broken) == 0 {
				fine++
			} else {
				wrong++
			}
		}
	}
	if fine < 1000 || wrong < 1000 {
		t.Errorf("%d sets are valid, %d are not", fine, wrong)
	}
}
