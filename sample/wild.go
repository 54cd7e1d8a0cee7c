package sample

import (
	"math"
	"slices"
	"strings"

	"manciple/ask"
	"manciple/atom"
	"manciple/lock"
	"manciple/pkg"
	"manciple/repo"
	"manciple/rng"
)

// Wild returns plain data of which the layers below accept nothing: no call may
// panic on it (P1).
func Wild() []Given {
	var l []Given
	texts := []string{"", "a", "A", "1", "01", "x", " ", "\n", "\xff", strings.Repeat("1", 1<<12)}
	for _, name := range texts {
		for _, v := range texts {
			for _, kind := range []int{0, ask.Install, ask.Remove, ask.Upgrade, ask.Pin, 5, -1, math.MaxInt, math.MinInt} {
				l = append(l, wild(name, v, kind))
			}
		}
	}
	return l
}

func wild(name, v string, kind int) Given {
	a := atom.Atom{Name: name, Range: rng.Range{{Lo: v, HiIn: true}, {Hi: v, LoIn: true}, {}, {}}}
	p := pkg.Pkg{
		Name:      name,
		Ver:       v,
		Depends:   []pkg.Dep{nil, {a}},
		Conflicts: []atom.Atom{{}, a},
		Provides:  []pkg.Give{{Name: name, Ver: v}},
		Weight:    math.NaN(),
	}
	return Given{
		Repo: slices.Repeat(repo.Repo{p}, 3),
		Lock: lock.Lock{{Name: name, Ver: v}, {Name: name}},
		Asks: []ask.Ask{{Kind: kind, Atom: a}},
		Set:  []int{0, 1, 2},
	}
}
