package prop

import (
	"slices"

	"manciple/cnf"
)

// contradiction is the panic that ends Close early. Nothing that is there ever
// goes again, so what contradicts at any moment contradicts at the end.
type contradiction struct{}

// known has at each variable its literal that is there, 0 if neither is.
type known []int

// add tells whether lit is new. It panics with a contradiction if the negation
// of lit is there.
func (k known) add(lit int) bool {
	v := max(lit, -lit)
	if k[v] == -lit {
		panic(contradiction{})
	}
	isNew := k[v] == 0
	k[v] = lit
	return isNew
}

func (k known) isFalse(lit int) bool { return k[max(lit, -lit)] == -lit }

// follow adds what follows from the clauses. They are gone through again until
// that brings nothing new, but no literal of theirs that was passed over as
// false is looked at again. It panics with a contradiction if there is one.
func (k known) follow(l []cnf.Clause) {
	open := slices.Clone(l)
	for again := true; again; {
		again = false
		for i, c := range open {
			open[i] = k.remainder(c)
			again = k.forced(open[i]) || again
		}
	}
}

// remainder returns the piece of c between two different literals that are not
// false. If there are no two, it is one literal, which is all that remains.
func (k known) remainder(c cnf.Clause) cnf.Clause {
	for len(c) > 1 && k.isFalse(c[0]) {
		c = c[1:]
	}
	for last := len(c) - 1; last > 0 && (c[last] == c[0] || k.isFalse(c[last])); last-- {
		c = c[:last]
	}
	return c
}

// forced adds the literal of a clause of which no more remains, and tells
// whether it is new. It panics with a contradiction if that literal is false,
// or if c is empty.
func (k known) forced(c cnf.Clause) bool {
	switch len(c) {
	case 0:
		panic(contradiction{})
	case 1:
		return k.add(c[0])
	}
	return false
}

// literals returns what is there, in ascending order of the variables.
func (k known) literals() []int {
	var lits []int
	for _, lit := range k {
		if lit != 0 {
			lits = append(lits, lit)
		}
	}
	return lits
}
