package rule

import (
	"manciple/atom"
	"manciple/fault"
	"manciple/pkg"
	"manciple/repo"
)

// dependencyOf panics with an api.Errno if there is no such package, or if it
// has no such dependency.
func dependencyOf(x Rule, r repo.Repo) pkg.Dep {
	return fault.Element(fault.Element(r, x.Pkg).Depends, x.At)
}

// conflictOf is dependencyOf for a conflict.
func conflictOf(x Rule, r repo.Repo) atom.Atom {
	return fault.Element(fault.Element(r, x.Pkg).Conflicts, x.At)
}
