package enc

import (
	"manciple/api"
	"manciple/ask"
	"manciple/cnf"
	"manciple/fault"
	"manciple/lock"
	"manciple/repo"
	"manciple/rule"
)

// clausesOf panics with an api.Errno if x cannot be a rule.
func clausesOf(x rule.Rule, r repo.Repo, k lock.Lock, l []ask.Ask) []cnf.Clause {
	switch x.Kind {
	case rule.One:
		return atMostOne(repo.Named(r, x.Name))
	case rule.Needs:
		return []cnf.Clause{need(x, r)}
	case rule.Conflict:
		return conflict(x, r)
	case rule.Asked:
		return request(x, r, k, l)
	}
	panic(api.ErrArg)
}

func atMostOne(numbers []int) []cnf.Clause {
	var l []cnf.Clause
	for i, number := range numbers {
		for _, other := range numbers[i+1:] {
			l = append(l, notBoth(number, other))
		}
	}
	return l
}

// need panics with an api.Errno if there is no such dependency.
func need(x rule.Rule, r repo.Repo) cnf.Clause {
	d := fault.Element(fault.Element(r, x.Pkg).Depends, x.At)
	c := cnf.Clause{out(x.Pkg)}
	for _, a := range d {
		c = append(c, anyOf(repo.Meeting(r, a))...)
	}
	return c
}

// conflict panics with an api.Errno if there is no such conflict.
func conflict(x rule.Rule, r repo.Repo) []cnf.Clause {
	a := fault.Element(fault.Element(r, x.Pkg).Conflicts, x.At)
	var l []cnf.Clause
	for _, number := range repo.Meeting(r, a) {
		if number != x.Pkg {
			l = append(l, notBoth(x.Pkg, number))
		}
	}
	return l
}

// request asks rule.Holds about each package alone. That is enough: a set
// fulfils an Install or an Upgrade if one of its packages does so alone, and a
// Remove or a Pin if all of them do. It panics with an api.Errno if there is no
// such request.
func request(x rule.Rule, r repo.Repo, k lock.Lock, l []ask.Ask) []cnf.Clause {
	var fulfilling, breaking []int
	for number := range r {
		if rule.Holds(x, r, k, l, []int{number}) {
			fulfilling = append(fulfilling, number)
		} else {
			breaking = append(breaking, number)
		}
	}
	switch fault.Element(l, x.At).Kind {
	case ask.Install, ask.Upgrade:
		return []cnf.Clause{anyOf(fulfilling)}
	case ask.Remove, ask.Pin:
		return noneOf(breaking)
	}
	panic(api.ErrArg)
}

func anyOf(numbers []int) cnf.Clause {
	var c cnf.Clause
	for _, number := range numbers {
		c = append(c, in(number))
	}
	return c
}

func noneOf(numbers []int) []cnf.Clause {
	var l []cnf.Clause
	for _, number := range numbers {
		l = append(l, cnf.Clause{out(number)})
	}
	return l
}

func notBoth(one, other int) cnf.Clause { return cnf.Clause{out(one), out(other)} }

// in is the literal that a package is in the set. Numbers begin at 0, variables
// at 1.
func in(number int) int { return number + 1 }

// out is the literal that a package is not in the set.
func out(number int) int { return -in(number) }
