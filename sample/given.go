package sample

import (
	"slices"

	"manciple/ask"
	"manciple/atom"
	"manciple/lock"
	"manciple/pkg"
	"manciple/repo"
	"manciple/rng"
)

// Given is what the functions from package rule on are given.
type Given struct {
	Repo repo.Repo
	Lock lock.Lock
	Asks []ask.Ask
	Set  []int
}

// Spaced returns a copy of g in which every list has room beyond its end.
func (g Given) Spaced() Given { return spaced.given(g) }

// Stretched returns a copy of g in which every list has also what lies beyond
// its end. Two of them tell whether a call has changed anything (P2).
func (g Given) Stretched() Given { return stretched.given(g) }

// Same tells whether two of them are equal.
func Same(a, b Given) bool {
	return repo.Same(a.Repo, b.Repo) && lock.Same(a.Lock, b.Lock) && ask.Same(a.Asks, b.Asks) && slices.Equal(a.Set, b.Set)
}

// Spill writes over l and over what lies beyond its end. What has memory in
// common with l shows it (P2).
func Spill[S ~[]E, E any](l S, over E) {
	l = l[:cap(l)]
	for i := range l {
		l[i] = over
	}
}

// What lies beyond the end of a list is nothing that a call could write there.
const (
	spare     = "spare"
	noKind    = -7
	noNumber  = -7
	noLiteral = 7777777
)

// way is how the lists of something are copied.
type way int

const (
	spaced    way = 1
	stretched way = 2
)

func (w way) given(g Given) Given {
	return Given{
		Repo: list(w, g.Repo, pkg.Pkg{Name: spare}, w.pkg),
		Lock: list(w, g.Lock, lock.Entry{Name: spare}, itself),
		Asks: list(w, g.Asks, ask.Ask{Kind: noKind}, w.ask),
		Set:  list(w, g.Set, noNumber, itself),
	}
}

func (w way) pkg(p pkg.Pkg) pkg.Pkg {
	p.Depends = list(w, p.Depends, pkg.Dep{{Name: spare}}, w.dep)
	p.Conflicts = list(w, p.Conflicts, atom.Atom{Name: spare}, w.atom)
	p.Provides = list(w, p.Provides, pkg.Give{Name: spare}, itself)
	return p
}

func (w way) dep(d pkg.Dep) pkg.Dep { return list(w, d, atom.Atom{Name: spare}, w.atom) }

func (w way) ask(a ask.Ask) ask.Ask {
	a.Atom = w.atom(a.Atom)
	return a
}

func (w way) atom(a atom.Atom) atom.Atom {
	a.Range = list(w, a.Range, rng.Span{Lo: spare}, itself)
	return a
}

func itself[E any](e E) E { return e }

// list copies l in that way, with beyond in the room beyond its end.
func list[S ~[]E, E any](w way, l S, beyond E, each func(E) E) S {
	if w == stretched {
		return mapped(l[:cap(l)], each)
	}
	return append(mapped(l, each), beyond, beyond)[:len(l)]
}

func mapped[S ~[]E, E any](l S, each func(E) E) S {
	var out S
	for _, e := range l {
		out = append(out, each(e))
	}
	return out
}
