package cost

import (
	"manciple/lock"
	"manciple/repo"
)

// scale is what the costs of all sets of a repository have in common: Best
// works it out once, not for each set.
type scale struct {
	repo   repo.Repo
	lock   lock.Lock
	ranks  []int
	titles []title
}

// title is a name of the repository.
type title struct {
	name      string
	installed bool
	packages  int // how many have the name
}

func scaleOf(r repo.Repo, k lock.Lock) scale {
	s := scale{repo: r, lock: k, ranks: Ranks(r)}
	for _, name := range repo.Names(r) {
		_, installed := lock.Get(k, name)
		s.titles = append(s.titles, title{name, installed, len(repo.Named(r, name))})
	}
	return s
}

func (s scale) cost(set []int) []int {
	ranks := s.ranksIn(set)
	var cost []int
	for _, e := range s.lock {
		_, kept := ranks[e.Name]
		cost = append(cost, oneIf(!kept))
	}
	for _, t := range s.titles {
		if _, added := ranks[t.name]; !t.installed {
			cost = append(cost, oneIf(added))
		}
	}
	for _, t := range s.titles {
		if taken, found := ranks[t.name]; found {
			cost = append(cost, taken)
		} else {
			cost = append(cost, t.packages)
		}
	}
	return cost
}

// ranksIn returns the ranks of the packages of the set by their names. Of a
// name that is there twice the first package decides, and numbers of no package
// are passed over: both may come up only in what is no such set (P8).
func (s scale) ranksIn(set []int) map[string]int {
	ranks := map[string]int{}
	for _, number := range set {
		if number < 0 || number >= len(s.repo) {
			continue
		}
		name := s.repo[number].Name
		if _, twice := ranks[name]; !twice {
			ranks[name] = s.ranks[number]
		}
	}
	return ranks
}

func oneIf(is bool) int {
	if is {
		return 1
	}
	return 0
}
