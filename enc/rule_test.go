package enc_test

import (
	"math/rand"
	"testing"

	"manciple/ask"
	"manciple/cnf"
	"manciple/enc"
	"manciple/lock"
	"manciple/pkg"
	"manciple/repo"
	"manciple/rng"
	"manciple/rule"
	"manciple/sample"
	"manciple/ver"
)

func holdRule(t *testing.T, x rule.Rule, r repo.Repo, k lock.Lock, l []ask.Ask, want ...cnf.Clause) {
	t.Helper()
	if got := enc.Rule(x, r, k, l); !cnf.Same(got, want) {
		t.Errorf("Rule(%v): %s; want %s", x, shown(got), shown(want))
	}
}

func TestP1401One(t *testing.T) {
	one := func(name string) rule.Rule { return rule.Rule{Kind: rule.One, Name: name} }
	// the example of the chapter
	r := sample.Packages("a 1", "a 2", "a 3", "b 1", "b 2")
	holdRule(t, one("b"), r, nil, nil, cnf.Clause{-4, -5})
	holdRule(t, one("a"), r, nil, nil, cnf.Clause{-1, -2}, cnf.Clause{-1, -3}, cnf.Clause{-2, -3})
	// what is provided does not count
	r = sample.Packages("a 1 / Provides: b; b = 4", "b 1", "b 2", "b 3", "b 4", "c 1")
	holdRule(t, one("a"), r, nil, nil)
	holdRule(t, one("b"), r, nil, nil, cnf.Clause{-2, -3}, cnf.Clause{-2, -4}, cnf.Clause{-2, -5}, cnf.Clause{-3, -4}, cnf.Clause{-3, -5}, cnf.Clause{-4, -5})
	holdRule(t, one("c"), r, nil, nil)
	// nor does what is installed or asked
	holdRule(t, one("c"), r, sample.Installed("c 1", "c2 1"), sample.Requests("remove c"))
	holdRule(t, one("z"), r, nil, nil)
	holdRule(t, one("a"), nil, nil, nil)
}

func TestP1401Needs(t *testing.T) {
	r := sample.Packages(
		"a 1 / Provides: v",
		"a 2 / Provides: v = 2; w = 3; w = 1",
		"b 1 / Depends: c or a; a; a or a (> 1) or v; v (>= 2); w (= 1 | = 3); z; z (none) or a (< 1); v (none)",
		"b 2 / Depends: b (> 2) or b (< 2); b or z; b (= 2) or a; x; x (= 1); a or x (= 2) / Provides: x; x = 2",
		"c 0 / Depends: c (> 0) / Provides: v = 1",
		"c 1 / Depends: b (> 1) or c (< 1)",
	)
	needs := func(number, at int) rule.Rule { return rule.Rule{Kind: rule.Needs, Pkg: number, At: at} }
	// in ascending order of the packages, wherever it stands itself and however the atoms stand
	holdRule(t, needs(2, 0), r, nil, nil, cnf.Clause{1, 2, -3, 5, 6})
	holdRule(t, needs(2, 1), r, nil, nil, cnf.Clause{1, 2, -3})
	// each once, by whatever it fulfils
	holdRule(t, needs(2, 2), r, nil, nil, cnf.Clause{1, 2, -3, 5})
	// of what is provided its own version counts, not that of the package
	holdRule(t, needs(2, 3), r, nil, nil, cnf.Clause{2, -3})
	holdRule(t, needs(2, 4), r, nil, nil, cnf.Clause{2, -3})
	for at := 5; at < 8; at++ {
		holdRule(t, needs(2, at), r, nil, nil, cnf.Clause{-3}) // nothing fulfils it
	}
	holdRule(t, needs(3, 0), r, nil, nil, cnf.Clause{3, -4})
	// what fulfils its need itself always holds
	holdRule(t, needs(3, 1), r, nil, nil)
	holdRule(t, needs(3, 2), r, nil, nil)
	holdRule(t, needs(3, 3), r, nil, nil)
	holdRule(t, needs(3, 4), r, nil, nil, cnf.Clause{-4})
	holdRule(t, needs(3, 5), r, nil, nil)
	holdRule(t, needs(4, 0), r, nil, nil, cnf.Clause{-5, 6})
	holdRule(t, needs(5, 0), r, nil, nil, cnf.Clause{4, 5, -6})
	holdRule(t, needs(5, 0), r, sample.Installed("a 1", "c 1"), sample.Requests("install c"), cnf.Clause{4, 5, -6})
}

func TestP1401Conflict(t *testing.T) {
	r := sample.Packages(
		"a 1 / Conflicts: a; a (= 1); b; z; v",
		"a 2 / Provides: v = 1; v = 2",
		"b 1 / Conflicts: b; b (> 1); a; c; v; v (= 2); a (none); z / Provides: v = 2",
		"b 2 / Conflicts: v (>= 0); a (!= 1) / Provides: v",
		"b 3",
		"c 1 / Conflicts: b; c; a / Provides: c; v = 9",
	)
	refuses := func(number, at int) rule.Rule { return rule.Rule{Kind: rule.Conflict, Pkg: number, At: at} }
	// never itself
	holdRule(t, refuses(0, 0), r, nil, nil, cnf.Clause{-1, -2})
	holdRule(t, refuses(0, 1), r, nil, nil)
	holdRule(t, refuses(0, 2), r, nil, nil, cnf.Clause{-1, -3}, cnf.Clause{-1, -4}, cnf.Clause{-1, -5})
	holdRule(t, refuses(0, 3), r, nil, nil)
	holdRule(t, refuses(0, 4), r, nil, nil, cnf.Clause{-1, -2}, cnf.Clause{-1, -3}, cnf.Clause{-1, -4}, cnf.Clause{-1, -6})
	// in ascending order of the other ones, wherever it stands itself
	holdRule(t, refuses(2, 0), r, nil, nil, cnf.Clause{-3, -4}, cnf.Clause{-3, -5})
	holdRule(t, refuses(2, 1), r, nil, nil, cnf.Clause{-3, -4}, cnf.Clause{-3, -5})
	holdRule(t, refuses(2, 2), r, nil, nil, cnf.Clause{-1, -3}, cnf.Clause{-2, -3})
	holdRule(t, refuses(2, 3), r, nil, nil, cnf.Clause{-3, -6})
	holdRule(t, refuses(2, 4), r, nil, nil, cnf.Clause{-2, -3}, cnf.Clause{-3, -4}, cnf.Clause{-3, -6})
	holdRule(t, refuses(2, 5), r, nil, nil, cnf.Clause{-2, -3})
	holdRule(t, refuses(2, 6), r, nil, nil)
	holdRule(t, refuses(2, 7), r, nil, nil)
	holdRule(t, refuses(3, 0), r, nil, nil, cnf.Clause{-2, -4}, cnf.Clause{-3, -4}, cnf.Clause{-4, -6})
	holdRule(t, refuses(3, 1), r, nil, nil, cnf.Clause{-2, -4})
	holdRule(t, refuses(5, 0), r, nil, nil, cnf.Clause{-3, -6}, cnf.Clause{-4, -6}, cnf.Clause{-5, -6})
	holdRule(t, refuses(5, 1), r, nil, nil)
	holdRule(t, refuses(5, 2), r, sample.Installed("a 1"), sample.Requests("install a"), cnf.Clause{-1, -6}, cnf.Clause{-2, -6})
}

// holdAsked tells whether that request has these clauses, whichever requests
// stand beside it and whatever is in each of the lockfiles.
func holdAsked(t *testing.T, line string, r repo.Repo, locks []lock.Lock, want ...cnf.Clause) {
	t.Helper()
	l := sample.Requests("install x", line, "remove a")
	for _, k := range locks {
		holdRule(t, rule.Rule{Kind: rule.Asked, At: 1}, r, k, l, want...)
	}
}

func TestP1401AskedInstallRemoveAndPin(t *testing.T) {
	r := sample.Packages("a 1", "a 2", "a 3", "b 1 / Provides: a = 4; v; w = 1", "b 2 / Provides: w = 2")
	asked := func(line string, want ...cnf.Clause) {
		t.Helper()
		holdAsked(t, line, r, []lock.Lock{nil, sample.Installed("a 1", "b 2", "w 1"), sample.Installed("a 9")}, want...)
	}
	asked("install a", cnf.Clause{1, 2, 3, 4})
	asked("install a (>= 2)", cnf.Clause{2, 3, 4})
	asked("install a (= 1 | > 3)", cnf.Clause{1, 4})
	asked("install b", cnf.Clause{4, 5})
	asked("install v", cnf.Clause{4})
	// what nothing fulfils is the clause that never holds
	asked("install v (>= 0)", nil)
	asked("install a (> 4)", nil)
	asked("install a (none)", nil)
	asked("install z", nil)
	asked("install w (!= 1)", cnf.Clause{5})
	// one clause a package, but of its name only
	asked("remove a", cnf.Clause{-1}, cnf.Clause{-2}, cnf.Clause{-3})
	asked("remove b", cnf.Clause{-4}, cnf.Clause{-5})
	asked("remove v")
	asked("remove w")
	asked("remove z")
	asked("pin a (= 2)", cnf.Clause{-1}, cnf.Clause{-3})
	asked("pin a (< 3)", cnf.Clause{-3})
	asked("pin a (none)", cnf.Clause{-1}, cnf.Clause{-2}, cnf.Clause{-3})
	asked("pin a (= 4)", cnf.Clause{-1}, cnf.Clause{-2}, cnf.Clause{-3})
	asked("pin a")
	asked("pin a (>= 1)")
	asked("pin b (> 1)", cnf.Clause{-4})
	asked("pin v (none)")
	asked("pin w (= 1)")
	asked("pin z (none)")
}

func TestP1401AskedUpgrade(t *testing.T) {
	r := sample.Packages("a 9", "a 10~1", "a 10", "b 1 / Provides: a = 99; v", "c 1:0", "c 2:0")
	upgrade := func(name, installed string, want ...cnf.Clause) {
		t.Helper()
		holdAsked(t, "upgrade "+name, r, []lock.Lock{sample.Installed(installed)}, want...)
	}
	// with no entry of its name each version of it is above
	holdAsked(t, "upgrade a", r, []lock.Lock{nil, {}, sample.Installed("aa 99", "b 99"), sample.Installed("z 1")}, cnf.Clause{1, 2, 3})
	// by ver.Compare
	upgrade("a", "a 8", cnf.Clause{1, 2, 3})
	upgrade("a", "a 9~1", cnf.Clause{1, 2, 3})
	upgrade("a", "a 9", cnf.Clause{2, 3})
	upgrade("a", "a 9.9", cnf.Clause{2, 3})
	upgrade("a", "a 10~1", cnf.Clause{3})
	// what is above nothing is the clause that never holds
	upgrade("a", "a 10", nil)
	upgrade("a", "a 10-1", nil)
	upgrade("a", "a 1:0", nil)
	upgrade("c", "c 9", cnf.Clause{5, 6})
	upgrade("c", "c 1:0", cnf.Clause{6})
	upgrade("c", "c 2:0", nil)
	// by its name only
	upgrade("v", "b 0", nil)
	upgrade("z", "z 0", nil)
	holdAsked(t, "upgrade v", r, []lock.Lock{nil}, nil)
	// of several entries that of its name counts
	holdAsked(t, "upgrade a", r, []lock.Lock{sample.Installed("a 9", "b 99"), sample.Installed("a 9", "aa 99", "c 9")}, cnf.Clause{2, 3})
}

// ruleByItsWords does what P1401 says of Rule, word by word.
func ruleByItsWords(x rule.Rule, r repo.Repo, k lock.Lock, l []ask.Ask) []cnf.Clause {
	var clauses []cnf.Clause
	add := func(literals ...int) {
		if c, some := cnf.Norm(literals); some {
			clauses = append(clauses, c)
		}
	}
	switch x.Kind {
	case rule.One:
		for i, p := range r {
			for j, q := range r {
				if i < j && p.Name == x.Name && q.Name == x.Name {
					add(-(i + 1), -(j + 1))
				}
			}
		}
	case rule.Needs:
		literals := []int{-(x.Pkg + 1)}
		for i, p := range r {
			for _, a := range r[x.Pkg].Depends[x.At] {
				if pkg.Meets(p, a) {
					literals = append(literals, i+1)
				}
			}
		}
		add(literals...)
	case rule.Conflict:
		for i, p := range r {
			if i != x.Pkg && pkg.Meets(p, r[x.Pkg].Conflicts[x.At]) {
				add(-(x.Pkg + 1), -(i + 1))
			}
		}
	case rule.Asked:
		return askedByItsWords(l[x.At], r, k)
	}
	return clauses
}

func askedByItsWords(a ask.Ask, r repo.Repo, k lock.Lock) []cnf.Clause {
	var one cnf.Clause
	var none []cnf.Clause
	for i, p := range r {
		named := p.Name == a.Atom.Name
		v, found := lock.Get(k, a.Atom.Name)
		switch {
		case a.Kind == ask.Install && pkg.Meets(p, a.Atom), a.Kind == ask.Upgrade && named && (!found || ver.Compare(p.Ver, v) == 1):
			one = append(one, i+1)
		case a.Kind == ask.Remove && named, a.Kind == ask.Pin && named && !rng.Has(a.Atom.Range, p.Ver):
			none = append(none, cnf.Clause{-(i + 1)})
		}
	}
	if a.Kind == ask.Install || a.Kind == ask.Upgrade {
		return []cnf.Clause{one}
	}
	return none
}

func TestP1401RuleByItsWords(t *testing.T) {
	random := rand.New(rand.NewSource(1401))
	var clauses [5]int // of each kind
	for range 3000 {
		r, k, l := sample.Drawn(random.Intn)
		for _, x := range rule.All(r, l) {
			want := ruleByItsWords(x, r, k, l)
			holdRule(t, x, r, k, l, want...)
			clauses[x.Kind] += len(want)
		}
	}
	for kind, n := range clauses[1:] {
		if n < 400 {
			t.Errorf("only %d clauses of kind %d", n, kind+1)
		}
	}
}

// agrees tells whether the clauses of x all hold exactly where x does.
func agrees(t *testing.T, x rule.Rule, r repo.Repo, k lock.Lock, l []ask.Ask) {
	t.Helper()
	clauses := enc.Rule(x, r, k, l)
	for bits := range 1 << len(r) {
		set := sample.Subset(bits, len(r))
		first := cnf.First(clauses, enc.Model(set, len(r)))
		if rule.Holds(x, r, k, l, set) != (first < 0) {
			t.Fatalf("Rule(%v): %s; the first that does not hold of %v is %d", x, shown(clauses), set, first)
		}
	}
}

func TestP1401RuleHoldsWhereItsClausesDo(t *testing.T) {
	random := rand.New(rand.NewSource(17))
	for range 2000 {
		r, k, l := sample.Drawn(random.Intn)
		for _, x := range rule.All(r, l) {
			agrees(t, x, r, k, l)
		}
	}
}
