package rule_test

import (
	"fmt"
	"math/rand"
	"strings"
	"testing"

	"manciple/ask"
	"manciple/lock"
	"manciple/pkg"
	"manciple/repo"
	"manciple/rng"
	"manciple/rule"
	"manciple/sample"
	"manciple/ver"
)

// holdHolds tells whether of the sets of the packages just those fulfil the
// rule that are written in want, each as its numbers.
func holdHolds(t *testing.T, x rule.Rule, r repo.Repo, k lock.Lock, l []ask.Ask, want ...string) {
	t.Helper()
	var got []string
	for bits := range 1 << len(r) {
		if set := sample.Subset(bits, len(r)); rule.Holds(x, r, k, l, set) {
			got = append(got, strings.Trim(fmt.Sprint(set), "[]"))
		}
	}
	if strings.Join(got, ", ") != strings.Join(want, ", ") {
		t.Errorf("Holds(%v): %q; want %q", x, got, want)
	}
}

func TestP1001HoldsOne(t *testing.T) {
	r := sample.Packages("a 1", "b 1 / Provides: a", "b 2 / Provides: b = 1", "c 1 / Provides: a; b")
	one := func(name string) rule.Rule { return rule.Rule{Kind: rule.One, Name: name} }
	// what is provided does not count
	all := []string{"", "0", "1", "0 1", "2", "0 2", "1 2", "0 1 2", "3", "0 3", "1 3", "0 1 3", "2 3", "0 2 3", "1 2 3", "0 1 2 3"}
	holdHolds(t, one("a"), r, nil, nil, all...)
	holdHolds(t, one("b"), r, nil, nil, "", "0", "1", "0 1", "2", "0 2", "3", "0 3", "1 3", "0 1 3", "2 3", "0 2 3")
	holdHolds(t, one("c"), r, nil, nil, all...)
	holdHolds(t, one("a"), sample.Packages("a 1", "a 2", "a 3"), nil, nil, "", "0", "1", "2")
	if !rule.Holds(one("a"), nil, nil, nil, nil) {
		t.Error("Holds: the empty set has two packages of a name")
	}
}

func TestP1001HoldsNeeds(t *testing.T) {
	r := sample.Packages("a 1 / Depends: b (> 1) or v (= 3); a; a (> 1); w; z; w (>= 0) or a (none)", "b 1", "b 2", "c 1 / Provides: v = 3; w; w = 2")
	needs := func(at int) rule.Rule { return rule.Rule{Kind: rule.Needs, Pkg: 0, At: at} }
	without := []string{"", "1", "2", "1 2", "3", "1 3", "2 3", "1 2 3"}
	// of the second atom the version that is provided decides, not that of c
	holdHolds(t, needs(0), r, nil, nil, "", "1", "2", "0 2", "1 2", "0 1 2", "3", "0 3", "1 3", "0 1 3", "2 3", "0 2 3", "1 2 3", "0 1 2 3")
	// the package itself is enough
	holdHolds(t, needs(1), r, nil, nil, "", "0", "1", "0 1", "2", "0 2", "1 2", "0 1 2", "3", "0 3", "1 3", "0 1 3", "2 3", "0 2 3", "1 2 3", "0 1 2 3")
	holdHolds(t, needs(2), r, nil, nil, without...)
	holdHolds(t, needs(3), r, nil, nil, "", "1", "2", "1 2", "3", "0 3", "1 3", "0 1 3", "2 3", "0 2 3", "1 2 3", "0 1 2 3")
	holdHolds(t, needs(4), r, nil, nil, without...)
	holdHolds(t, needs(5), r, nil, nil, "", "1", "2", "1 2", "3", "0 3", "1 3", "0 1 3", "2 3", "0 2 3", "1 2 3", "0 1 2 3")
	// a name that is provided without a version has none to be in a range
	holdHolds(t, needs(0), sample.Packages("a 1 / Depends: v (>= 0)", "b 1 / Provides: v"), nil, nil, "", "1")
	// what it provides itself is enough as well
	holdHolds(t, needs(0), sample.Packages("a 1 / Depends: v (> 1); v (< 2) / Provides: v = 2"), nil, nil, "", "0")
	holdHolds(t, needs(1), sample.Packages("a 1 / Depends: v (> 1); v (< 2) / Provides: v = 2"), nil, nil, "")
}

func TestP1001HoldsConflict(t *testing.T) {
	r := sample.Packages("a 1 / Conflicts: a; b (> 1); v; v (= 3); a (none); z / Provides: v = 3; z", "a 2", "b 2 / Provides: v", "c 1 / Provides: v = 3")
	refuses := func(at int) rule.Rule { return rule.Rule{Kind: rule.Conflict, Pkg: 0, At: at} }
	all := []string{"", "0", "1", "0 1", "2", "0 2", "1 2", "0 1 2", "3", "0 3", "1 3", "0 1 3", "2 3", "0 2 3", "1 2 3", "0 1 2 3"}
	// not with itself, but with another version of it
	holdHolds(t, refuses(0), r, nil, nil, "", "0", "1", "2", "0 2", "1 2", "3", "0 3", "1 3", "2 3", "0 2 3", "1 2 3")
	holdHolds(t, refuses(1), r, nil, nil, "", "0", "1", "0 1", "2", "1 2", "3", "0 3", "1 3", "0 1 3", "2 3", "1 2 3")
	// not with what it provides itself, but with what others do
	holdHolds(t, refuses(2), r, nil, nil, "", "0", "1", "0 1", "2", "1 2", "3", "1 3", "2 3", "1 2 3")
	holdHolds(t, refuses(3), r, nil, nil, "", "0", "1", "0 1", "2", "0 2", "1 2", "0 1 2", "3", "1 3", "2 3", "1 2 3")
	holdHolds(t, refuses(4), r, nil, nil, all...)
	holdHolds(t, refuses(5), r, nil, nil, all...)
	// the package with the conflict need not be the first
	holdHolds(t, rule.Rule{Kind: rule.Conflict, Pkg: 1, At: 0}, sample.Packages("a 1", "b 1 / Conflicts: x; a"), nil, nil, "", "0", "1", "0 1")
	holdHolds(t, rule.Rule{Kind: rule.Conflict, Pkg: 1, At: 1}, sample.Packages("a 1", "b 1 / Conflicts: x; a"), nil, nil, "", "0", "1")
}

func TestP1001HoldsInstall(t *testing.T) {
	r := sample.Packages("a 1", "a 2", "b 1 / Provides: v; w = 2")
	asked := func(line string, want ...string) {
		t.Helper()
		l := sample.Requests("remove x", line, "remove y")
		// what is installed has no say
		for _, k := range []lock.Lock{nil, sample.Installed("a 1", "b 1", "v 1"), sample.Installed("a 9")} {
			holdHolds(t, rule.Rule{Kind: rule.Asked, At: 1}, r, k, l, want...)
		}
	}
	asked("install a", "0", "1", "0 1", "0 2", "1 2", "0 1 2")
	asked("install a (> 1)", "1", "0 1", "1 2", "0 1 2")
	asked("install a (none)")
	asked("install a (> 2)")
	asked("install v", "2", "0 2", "1 2", "0 1 2")
	asked("install v (>= 0)")
	asked("install w (>= 2)", "2", "0 2", "1 2", "0 1 2")
	asked("install w (> 2)")
	asked("install z")
	asked("remove a", "", "2")
	asked("remove b", "", "0", "1", "0 1")
	// what provides a name may stay when the name is removed
	asked("remove v", "", "0", "1", "0 1", "2", "0 2", "1 2", "0 1 2")
	asked("pin a (= 1)", "", "0", "2", "0 2")
	asked("pin a (< 2 | > 2)", "", "0", "2", "0 2")
	asked("pin a (none)", "", "2")
	asked("pin a", "", "0", "1", "0 1", "2", "0 2", "1 2", "0 1 2")
	asked("pin b (> 1)", "", "0", "1", "0 1")
	// nor does a pin of it bear on what provides it
	asked("pin w (= 1)", "", "0", "1", "0 1", "2", "0 2", "1 2", "0 1 2")
	asked("pin v (none)", "", "0", "1", "0 1", "2", "0 2", "1 2", "0 1 2")
}

func TestP1001HoldsUpgrade(t *testing.T) {
	r := sample.Packages("a 9", "a 10", "b 1 / Provides: a = 99")
	for _, c := range []struct {
		k    lock.Lock
		want []string
	}{
		{nil, []string{"0", "1", "0 1", "0 2", "1 2", "0 1 2"}},
		{sample.Installed("b 9"), []string{"0", "1", "0 1", "0 2", "1 2", "0 1 2"}},
		{sample.Installed("a 8", "b 1"), []string{"0", "1", "0 1", "0 2", "1 2", "0 1 2"}},
		{sample.Installed("a 9~1"), []string{"0", "1", "0 1", "0 2", "1 2", "0 1 2"}},
		// one of the packages with the name is enough
		{sample.Installed("a 9"), []string{"1", "0 1", "1 2", "0 1 2"}},
		{sample.Installed("a 9-1"), []string{"1", "0 1", "1 2", "0 1 2"}},
		{sample.Installed("a 10~0"), []string{"1", "0 1", "1 2", "0 1 2"}},
		{sample.Installed("a 10"), nil},
		{sample.Installed("a 10-1"), nil},
		{sample.Installed("a 11"), nil},
		{sample.Installed("a 1:0"), nil},
	} {
		holdHolds(t, rule.Rule{Kind: rule.Asked, At: 0}, r, c.k, sample.Requests("upgrade a"), c.want...)
	}
	holdHolds(t, rule.Rule{Kind: rule.Asked, At: 0}, r, sample.Installed("z 1"), sample.Requests("upgrade z"))
	holdHolds(t, rule.Rule{Kind: rule.Asked, At: 0}, sample.Packages("a 1", "a 2:0", "b 0"), sample.Installed("a 1:9"), sample.Requests("upgrade a"), "1", "0 1", "1 2", "0 1 2")
}

// holdsByItsWords does what P1001 says of Holds, word by word, for valid
// arguments.
func holdsByItsWords(x rule.Rule, r repo.Repo, k lock.Lock, l []ask.Ask, set []int) bool {
	in := map[int]int{}
	for _, i := range set {
		in[i]++
	}
	named, bad, newer, meeting := 0, 0, 0, 0
	var about ask.Ask
	if x.Kind == rule.Asked {
		about = l[x.At]
		x.Name = about.Atom.Name
	}
	for i, p := range r {
		if in[i] == 0 {
			continue
		}
		if pkg.Meets(p, about.Atom) {
			meeting++
		}
		if p.Name != x.Name {
			continue
		}
		named++
		if !rng.Has(about.Atom.Range, p.Ver) {
			bad++
		}
		v, found := lock.Get(k, p.Name)
		if !found || ver.Compare(p.Ver, v) == 1 {
			newer++
		}
	}
	switch x.Kind*10 + about.Kind {
	case rule.One * 10:
		return named < 2
	case rule.Asked*10 + ask.Install:
		return meeting > 0
	case rule.Asked*10 + ask.Remove:
		return named == 0
	case rule.Asked*10 + ask.Upgrade:
		return newer > 0
	case rule.Asked*10 + ask.Pin:
		return bad == 0
	}
	if in[x.Pkg] == 0 {
		return true
	}
	for i, p := range r {
		if x.Kind == rule.Needs && in[i] > 0 {
			for _, a := range r[x.Pkg].Depends[x.At] {
				if pkg.Meets(p, a) {
					return true
				}
			}
		}
		if x.Kind == rule.Conflict && in[i] > 0 && i != x.Pkg && pkg.Meets(p, r[x.Pkg].Conflicts[x.At]) {
			return false
		}
	}
	return x.Kind == rule.Conflict
}

func TestP1001HoldsByItsWords(t *testing.T) {
	random := rand.New(rand.NewSource(10))
	held, broken := map[int]int{}, map[int]int{}
	for range 2000 {
		r, k, l := sample.Drawn(random.Intn)
		for _, x := range rule.All(r, l) {
			for bits := range 1 << len(r) {
				set := sample.Subset(bits, len(r))
				want := holdsByItsWords(x, r, k, l, set)
				if rule.Holds(x, r, k, l, set) != want {
					index, _ := repo.Print(r)
					t.Fatalf("Holds(%v) of %v: %v\n%s\n%v\n%s", x, set, !want, index, k, rule.Text(x, r, l))
				}
				if want {
					held[x.Kind]++
				} else {
					broken[x.Kind]++
				}
			}
		}
	}
	for kind := rule.One; kind <= rule.Asked; kind++ {
		if held[kind] < 500 || broken[kind] < 500 {
			t.Errorf("rules of kind %d: %d times held, %d times broken", kind, held[kind], broken[kind])
		}
	}
}

func TestP1001HoldsAtTheLimits(t *testing.T) {
	r, l := sample.Full()
	set := sample.Subset(-1, len(r))
	for _, x := range rule.All(r, l) {
		want := x.Kind == rule.One || x.Kind == rule.Conflict
		if rule.Holds(x, r, nil, l, set) != want {
			t.Errorf("Holds(%v): %v", x, !want)
		}
		if rule.Holds(x, r, nil, l, nil) == (x.Kind == rule.Asked) {
			t.Errorf("Holds(%v) of the empty set: %v", x, x.Kind == rule.Asked)
		}
	}
}
