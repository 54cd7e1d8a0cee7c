package rule

import (
	"slices"

	"manciple/api"
	"manciple/ask"
	"manciple/atom"
	"manciple/fault"
	"manciple/lock"
	"manciple/pkg"
	"manciple/repo"
	"manciple/rng"
	"manciple/ver"
)

// Holds tells whether the set fulfils the rule x. It is false if x names a kind,
// a package or a part that there is not, or if set is no set.
func Holds(x Rule, r repo.Repo, k lock.Lock, l []ask.Ask, set []int) (fulfilled bool) {
	defer func() { recover() }()
	fault.Require(Set(set, len(r)), api.ErrArg)
	return holds(x, k, l, chosen{r, set})
}

// holds panics with an api.Errno if x cannot be a rule.
func holds(x Rule, k lock.Lock, l []ask.Ask, c chosen) bool {
	switch x.Kind {
	case One:
		return c.count(called(x.Name)) <= 1
	case Needs:
		d := dependencyOf(x, c.all)
		return !c.has(x.Pkg) || c.some(meetsOneOf(d))
	case Conflict:
		a := conflictOf(x, c.all)
		return !c.has(x.Pkg) || !c.without(x.Pkg).some(meets(a))
	case Asked:
		return grants(fault.Element(l, x.At), k, c)
	}
	panic(api.ErrArg)
}

// grants panics with an api.Errno if a is of no kind.
func grants(a ask.Ask, k lock.Lock, c chosen) bool {
	name := a.Atom.Name
	switch a.Kind {
	case ask.Install:
		return c.some(meets(a.Atom))
	case ask.Remove:
		return !c.some(called(name))
	case ask.Upgrade:
		return c.some(newer(name, k))
	case ask.Pin:
		return !c.some(outside(a.Atom))
	}
	panic(api.ErrArg)
}

// chosen is a set, with all the packages that its numbers count.
type chosen struct {
	all repo.Repo
	set []int
}

func (c chosen) has(number int) bool { return slices.Contains(c.set, number) }

func (c chosen) some(is trait) bool {
	return slices.ContainsFunc(c.set, func(number int) bool { return is(c.all[number]) })
}

func (c chosen) count(is trait) int {
	n := 0
	for _, number := range c.set {
		if is(c.all[number]) {
			n++
		}
	}
	return n
}

// without leaves the set that c was made of as it is: it may be an argument of
// an exported function (P2).
func (c chosen) without(number int) chosen {
	var rest []int
	for _, other := range c.set {
		if other != number {
			rest = append(rest, other)
		}
	}
	return chosen{c.all, rest}
}

// trait is what a rule asks of single packages.
type trait func(p pkg.Pkg) bool

// called does not ask what a package provides: it is not called so.
func called(name string) trait {
	return func(p pkg.Pkg) bool { return p.Name == name }
}

func meets(a atom.Atom) trait {
	return func(p pkg.Pkg) bool { return pkg.Meets(p, a) }
}

func meetsOneOf(d pkg.Dep) trait {
	return func(p pkg.Pkg) bool {
		return slices.ContainsFunc(d, func(a atom.Atom) bool { return pkg.Meets(p, a) })
	}
}

// newer holds of every package of that name if none is installed.
func newer(name string, k lock.Lock) trait {
	installed, found := lock.Get(k, name)
	return func(p pkg.Pkg) bool {
		return p.Name == name && (!found || ver.Compare(p.Ver, installed) > 0)
	}
}

// outside holds of the versions of the package of a that are not in its range.
func outside(a atom.Atom) trait {
	return func(p pkg.Pkg) bool { return p.Name == a.Name && !rng.Has(a.Range, p.Ver) }
}
