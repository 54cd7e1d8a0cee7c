package repo

import (
	"slices"

	"manciple/api"
	"manciple/fault"
	"manciple/pkg"
	"manciple/stanza"
)

// Parse reads the packages of a text, in whatever order they stand there. With
// an error it tells the line concerned.
func Parse(s string) (r Repo, line int, err api.Errno) {
	defer func() { line, err = fault.RaisedAt(recover(), api.ErrForm) }()
	return parse(s), 0, api.OK
}

// parse panics with a line and an api.Errno if s is no text of packages.
func parse(s string) Repo {
	stanzas, line, wrong := stanza.Parse(s)
	fault.RequireAt(wrong == api.OK, line, wrong)
	fault.Require(len(stanzas) <= api.MaxPkgs, api.ErrLong)
	var r Repo
	for _, one := range stanzas {
		p := packageOf(one)
		place, twice := slices.BinarySearchFunc(r, p, compare)
		fault.RequireAt(!twice, one[0].Line, api.ErrTwice)
		r = slices.Insert(r, place, p)
	}
	return r
}

// packageOf panics with a line and an api.Errno if s describes no package.
func packageOf(s stanza.Stanza) pkg.Pkg {
	p, field, wrong := pkg.From(s)
	fault.RequireAt(wrong == api.OK, s[field].Line, wrong)
	return p
}

// Print writes the text of a repository.
func Print(r Repo) (text string, err api.Errno) {
	defer func() { err = fault.Raised(recover(), api.ErrForm) }()
	requireRepo(r)
	written := stanza.Print(stanzasOf(r))
	fault.Require(len(written) <= api.MaxText, api.ErrLong)
	return written, api.OK
}

func stanzasOf(r Repo) []stanza.Stanza {
	var l []stanza.Stanza
	for _, p := range r {
		l = append(l, pkg.To(p))
	}
	return l
}
