// Package sample is no layer: it makes the repositories, the lockfiles, the
// requests and the clauses that the tests of the layers share. It panics where
// it is given what does not make one.
package sample

import (
	"slices"
	"strconv"
	"strings"

	"manciple/api"
	"manciple/ask"
	"manciple/atom"
	"manciple/lock"
	"manciple/pkg"
	"manciple/repo"
	"manciple/rng"
)

// Packages returns the repository of these stanzas, each of them written as
// "NAME VER / FIELD / FIELD".
func Packages(stanzas ...string) repo.Repo {
	var texts []string
	for _, s := range stanzas {
		fields := strings.Split(s, " / ")
		name, v, _ := strings.Cut(fields[0], " ")
		fields = append([]string{"Package: " + name, "Version: " + v}, fields[1:]...)
		texts = append(texts, strings.Join(fields, "\n")+"\n")
	}
	r, line, err := repo.Parse(strings.Join(texts, "\n"))
	requireOK(err, "line", line, stanzas)
	return r
}

// Requests returns the requests with these lines.
func Requests(lines ...string) []ask.Ask {
	var text string
	for _, line := range lines {
		text += line + "\n"
	}
	l, line, err := ask.Parse(text)
	requireOK(err, "line", line, lines)
	return l
}

// Installed returns the lockfile with these entries, each written "NAME VER".
func Installed(entries ...string) lock.Lock {
	var k lock.Lock
	for _, s := range entries {
		name, v, _ := strings.Cut(s, " ")
		k = append(k, lock.Entry{Name: name, Ver: v})
	}
	i, err := lock.Check(k)
	requireOK(err, "entry", i, entries)
	return k
}

// Subset returns the set that has number i for each bit i of bits.
func Subset(bits, n int) []int {
	var set []int
	for i := range n {
		if bits>>i&1 == 1 {
			set = append(set, i)
		}
	}
	return set
}

// Mixed returns a repository and requests that have rules of all kinds.
func Mixed() (repo.Repo, []ask.Ask) {
	r := Packages(
		"a 1 / Depends: b (> 1) or v; a",
		"a 2 / Conflicts: b; a; w",
		"b 1 / Depends: c / Conflicts: v (= 1) / Provides: v = 1",
		"b 2",
		"c 0 / Provides: w; v = 3",
	)
	return r, Requests("install v (> 2)", "remove b", "upgrade a", "pin b (= 1)")
}

// Full returns a repository and requests that have as many rules as may be.
func Full() (repo.Repo, []ask.Ask) {
	var r repo.Repo
	for i := range api.MaxPkgs {
		r = append(r, fullPkg("p"+strconv.Itoa(100+i)))
	}
	i, err := repo.Check(r)
	requireOK(err, "package", i, nil)
	return r, slices.Repeat(Requests("install a"), api.MaxAsks)
}

// fullPkg returns a package of as many dependencies and conflicts as may be.
// None of what these name is in a repository of such packages.
func fullPkg(name string) pkg.Pkg {
	p := pkg.Pkg{Name: name, Ver: "1"}
	for i := range api.MaxDeps {
		a := atom.Atom{Name: "q" + strconv.Itoa(i), Range: rng.All()}
		p.Depends = append(p.Depends, slices.Repeat(pkg.Dep{a}, api.MaxAtoms))
		p.Conflicts = append(p.Conflicts, a)
	}
	return p
}

// requireOK panics with what was given and the place in it if err is an error.
func requireOK(err api.Errno, what string, place int, given []string) {
	if err != api.OK {
		panic(strings.Join(given, "\n") + "\n" + what + " " + strconv.Itoa(place) + ": " + err.Error())
	}
}
