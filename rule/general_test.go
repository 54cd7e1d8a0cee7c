package rule_test

import (
	"fmt"
	"math"
	"slices"
	"strings"
	"testing"
	"unsafe"

	"manciple/api"
	"manciple/ask"
	"manciple/atom"
	"manciple/lock"
	"manciple/pkg"
	"manciple/repo"
	"manciple/rng"
	"manciple/rule"
)

var numbers = []int{0, 1, 2, 3, 4, 5, 6, -1, -2, 64, math.MaxInt, math.MinInt}

// no fails for what names something that there is not: by P1 it must not panic,
// and what it answers must not pass for a rule that holds or that has a text.
func no(t *testing.T, x rule.Rule, r repo.Repo, l []ask.Ask) {
	t.Helper()
	for _, set := range [][]int{nil, {0}, {0, 1}} {
		if len(r) >= len(set) && rule.Holds(x, r, nil, l, set) {
			t.Errorf("Holds(%v) of %v: true", x, set)
		}
	}
	if text := rule.Text(x, r, l); text != "" {
		t.Errorf("Text(%v): %q", x, text)
	}
}

func TestP1RulesThatAreNone(t *testing.T) {
	r, l := mixed()
	rules := rule.All(r, l)
	for _, kind := range numbers {
		for _, p := range numbers {
			for _, at := range numbers {
				x := rule.Rule{Kind: kind, Pkg: p, At: at}
				alike := func(y rule.Rule) bool {
					return x.Kind == rule.One || x == y || x.Kind == rule.Asked && y.Kind == x.Kind && x.At == y.At
				}
				if !slices.ContainsFunc(rules, alike) {
					no(t, x, r, l)
				}
				if kind != rule.One {
					no(t, x, nil, nil)
				}
			}
		}
	}
}

func TestP1SetsThatAreNone(t *testing.T) {
	r, l := mixed()
	for _, x := range rule.All(r, l) {
		for _, i := range numbers {
			for _, k := range numbers {
				set := []int{i, k}
				if !rule.Set(set, len(r)) && rule.Holds(x, r, nil, l, set) {
					t.Errorf("Holds(%v) of %v: true", x, set)
				}
			}
		}
	}
}

func TestP1AnyPackagesAndRequests(t *testing.T) {
	texts := []string{"", "a", "A", "1", "01", "x", " ", "\n", "\xff", strings.Repeat("1", 1<<12)}
	for _, name := range texts {
		for _, v := range texts {
			for _, kind := range numbers {
				a := atom.Atom{Name: name, Range: rng.Range{{Lo: v, HiIn: true}, {Hi: v, LoIn: true}, {}, {}}}
				p := pkg.Pkg{Name: name, Ver: v, Depends: []pkg.Dep{nil, {a}}, Conflicts: []atom.Atom{{}, a}, Provides: []pkg.Give{{Name: name, Ver: v}}}
				r, l := slices.Repeat(repo.Repo{p}, 3), []ask.Ask{{Kind: kind, Atom: a}}
				k := lock.Lock{{Name: name, Ver: v}, {Name: name}}
				for _, x := range rule.All(r, l) {
					rule.Holds(x, r, k, l, []int{0, 1, 2})
					rule.Text(x, r, l)
				}
			}
		}
	}
}

func TestP1RequestsThatAreNone(t *testing.T) {
	r, _ := mixed()
	l := []ask.Ask{{}, {Kind: 5, Atom: atom.Atom{Name: "a", Range: rng.All()}}, {Kind: -1}, {Kind: math.MinInt}}
	for at := range l {
		no(t, rule.Rule{Kind: rule.Asked, At: at}, r, l)
	}
	l = []ask.Ask{{Kind: ask.Remove, Atom: atom.Atom{Name: "a"}}, {Kind: ask.Install, Atom: atom.Atom{Name: "A", Range: rng.All()}}}
	for at := range l {
		if text := rule.Text(rule.Rule{Kind: rule.Asked, At: at}, r, l); text != "" {
			t.Errorf("Text of a request that has no line: %q", text)
		}
	}
}

// spaced returns copies of the arguments in which every list has something
// beyond its end.
func spaced(r repo.Repo, k lock.Lock, l []ask.Ask) (repo.Repo, lock.Lock, []ask.Ask) {
	r, k, l = slices.Clone(r), slices.Clone(k), slices.Clone(l)
	for i := range r {
		p := &r[i]
		p.Depends = slices.Clone(p.Depends)
		for n := range p.Depends {
			p.Depends[n] = spacedAtoms(p.Depends[n])
		}
		p.Depends = beyond(p.Depends, pkg.Dep{{Name: "spare"}})
		p.Conflicts = beyond(spacedAtoms(p.Conflicts), atom.Atom{Name: "spare"})
		p.Provides = beyond(p.Provides, pkg.Give{Name: "spare"})
	}
	for i := range l {
		l[i].Atom.Range = beyond(l[i].Atom.Range, rng.Span{Lo: "spare"})
	}
	return beyond(r, pkg.Pkg{Name: "spare"}), beyond(k, lock.Entry{Name: "spare"}), beyond(l, ask.Ask{Kind: 7})
}

func spacedAtoms(l []atom.Atom) []atom.Atom {
	l = slices.Clone(l)
	for i := range l {
		l[i].Range = beyond(l[i].Range, rng.Span{Lo: "spare"})
	}
	return beyond(l, atom.Atom{Name: "spare"})
}

func beyond[S ~[]E, E any](l S, spare E) S {
	return append(slices.Clone(l), spare, spare)[:len(l)]
}

// wholly writes the arguments with what lies beyond the ends of their lists.
func wholly(r repo.Repo, k lock.Lock, l []ask.Ask, set []int) string {
	var s strings.Builder
	for _, p := range r[:cap(r)] {
		fmt.Fprint(&s, p, p.Conflicts[:cap(p.Conflicts)], p.Provides[:cap(p.Provides)])
		for _, d := range p.Depends[:cap(p.Depends)] {
			for _, a := range d[:cap(d)] {
				fmt.Fprint(&s, a, a.Range[:cap(a.Range)])
			}
		}
		for _, a := range p.Conflicts {
			fmt.Fprint(&s, a.Range[:cap(a.Range)])
		}
	}
	for _, a := range l[:cap(l)] {
		fmt.Fprint(&s, a, a.Atom.Range[:cap(a.Atom.Range)])
	}
	fmt.Fprint(&s, k[:cap(k)], set[:cap(set)])
	return s.String()
}

func TestP2ArgumentsStayAsTheyAre(t *testing.T) {
	r, l := mixed()
	r, k, l := spaced(r, installed("a 1", "z 5"), l)
	for bits := range 1 << len(r) {
		set := beyond(subset(bits, len(r)), 77)
		before := wholly(r, k, l, set)
		for _, x := range rule.All(r, l) {
			rule.Holds(x, r, k, l, set)
			rule.Text(x, r, l)
		}
		rule.Set(set, len(r))
		if after := wholly(r, k, l, set); after != before {
			t.Fatalf("%s is now %s", before, after)
		}
	}
}

// isIn tells whether v lies in the memory of s.
func isIn(v, s string) bool {
	first := func(s string) uintptr { return uintptr(unsafe.Pointer(unsafe.StringData(s))) }
	return v != "" && s != "" && first(v) < first(s)+uintptr(len(s)) && first(s) < first(v)+uintptr(len(v))
}

func TestP2ResultsAreNewMemory(t *testing.T) {
	r, l := mixed()
	one, two := rule.All(r, l), rule.All(r, l)
	for i, x := range one {
		for _, p := range r {
			if isIn(x.Name, p.Name) {
				t.Errorf("All: the name of %v lies in the repository", x)
			}
		}
		if isIn(rule.Text(x, r, l), x.Name) {
			t.Errorf("Text(%v) lies in the rule", x)
		}
		one[i] = rule.Rule{Kind: 99}
	}
	spare := one[len(one):cap(one)]
	for i := range spare {
		spare[i] = rule.Rule{Kind: 99}
	}
	if !slices.Equal(two, mixedRules) {
		t.Error("All: two results share memory")
	}
	holdAll(t, r, l, mixedRules)
}

func TestP2NilIsAsEmpty(t *testing.T) {
	r, l := mixed()
	for _, x := range rule.All(r, l) {
		if rule.Holds(x, r, nil, l, nil) != rule.Holds(x, r, lock.Lock{}, l, []int{}) {
			t.Errorf("Holds(%v): nil lists are not as empty ones", x)
		}
	}
	holdAll(t, nil, []ask.Ask{}, nil)
	holdAll(t, repo.Repo{}, nil, nil)
}

func TestP3SameCallsSameResults(t *testing.T) {
	r, l := mixed()
	k := installed("a 1")
	var first string
	for n := range 3 {
		var s strings.Builder
		for _, x := range rule.All(r, l) {
			fmt.Fprintln(&s, x, rule.Text(x, r, l))
			for bits := range 1 << len(r) {
				fmt.Fprint(&s, rule.Holds(x, r, k, l, subset(bits, len(r))))
			}
		}
		if n == 0 {
			first = s.String()
		}
		if s.String() != first {
			t.Fatal("the same calls have other results")
		}
		no(t, rule.Rule{Kind: rule.Needs, Pkg: api.MaxPkgs}, r, l) // what is refused leaves nothing behind
	}
}
