package rule

import (
	"manciple/api"
	"manciple/atom"
	"manciple/fault"
	"manciple/pkg"
	"manciple/repo"
)

// dependencyOf panics with an api.Errno if there is no such package, or if it
// has no such dependency.
func dependencyOf(x Rule, r repo.Repo) pkg.Dep { return element(element(r, x.Pkg).Depends, x.At) }

// conflictOf is dependencyOf for a conflict.
func conflictOf(x Rule, r repo.Repo) atom.Atom { return element(element(r, x.Pkg).Conflicts, x.At) }

// element panics with an api.Errno if l has no element i.
func element[E any](l []E, i int) E {
	fault.Require(0 <= i && i < len(l), api.ErrArg)
	return l[i]
}
