package sample

import (
	"slices"
	"strings"

	"manciple/ask"
	"manciple/lock"
	"manciple/repo"
)

const (
	maxPkgs  = 5
	maxAsks  = 4
	maxParts = 4
)

// Drawn returns a repository of at most five packages, a lockfile and requests.
// They are drawn by below, which returns a number from 0 to n - 1. The names
// and the versions are few, so that much of it bears on one another.
func Drawn(below func(n int) int) (repo.Repo, lock.Lock, []ask.Ask) {
	d := draw{below}
	return d.packages(), d.installed(), d.requests()
}

type draw struct {
	below func(n int) int
}

func (d draw) packages() repo.Repo {
	var titles, stanzas []string
	for range d.below(maxPkgs + 1) {
		title := d.name() + " " + d.version()
		if !slices.Contains(titles, title) {
			titles = append(titles, title)
			stanzas = append(stanzas, title+d.fields())
		}
	}
	return Packages(stanzas...)
}

func (d draw) fields() string {
	var s string
	if d.coin() {
		s += " / Depends: " + d.list(d.dep, "; ")
	}
	if d.coin() {
		s += " / Conflicts: " + d.list(d.atom, "; ")
	}
	if d.coin() {
		s += " / Provides: " + d.list(d.give, "; ")
	}
	return s
}

func (d draw) installed() lock.Lock {
	var entries []string
	for _, name := range []string{"a", "b", "c", "v"} {
		if d.coin() {
			entries = append(entries, name+" "+d.version())
		}
	}
	return Installed(entries...)
}

func (d draw) requests() []ask.Ask {
	var lines []string
	for range d.below(maxAsks + 1) {
		lines = append(lines, d.oneOf("install "+d.atom(), "remove "+d.name(), "upgrade "+d.name(), "pin "+d.atom()))
	}
	return Requests(lines...)
}

func (d draw) dep() string { return d.list(d.atom, " or ") }

func (d draw) atom() string {
	v := d.version()
	return d.name() + d.oneOf("", " (none)", " (= "+v+")", " (!= "+v+")", " (< "+v+")", " (>= "+v+")")
}

func (d draw) give() string { return d.name() + d.oneOf("", " = "+d.version()) }

func (d draw) name() string { return d.oneOf("a", "b", "c", "v", "w") }

func (d draw) version() string { return d.oneOf("0", "1", "2", "10", "1~1", "1-1", "1:0") }

func (d draw) list(one func() string, between string) string {
	l := []string{one()}
	for len(l) < maxParts && d.coin() {
		l = append(l, one())
	}
	return strings.Join(l, between)
}

func (d draw) oneOf(l ...string) string { return l[d.below(len(l))] }

func (d draw) coin() bool { return d.below(2) > 0 }
