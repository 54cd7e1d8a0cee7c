package rup

import (
	"slices"

	"manciple/api"
	"manciple/cnf"
	"manciple/prop"
)

// negations returns the negations of all literals of c.
func negations(c cnf.Clause) []int {
	var lits []int
	for _, lit := range c {
		lits = append(lits, -lit)
	}
	return lits
}

// contradicts tells whether prop.Close of l with lits is a contradiction. The
// clauses of a proof and its steps may together be more than prop.Close takes
// at once, so it is asked piece by piece, until no piece adds anything.
func contradicts(n int, l []cnf.Clause, lits []int) bool {
	// each literal once, so that their number tells whether there are new ones
	closed, is := prop.Close(n, nil, lits)
	for before := -1; !is && before < len(closed); {
		before = len(closed)
		closed, is = closePieces(n, l, closed)
	}
	return is
}

// closePieces returns lits and what follows from them by one piece of l after
// the other, or true if a piece leads to a contradiction.
func closePieces(n int, l []cnf.Clause, lits []int) (closed []int, is bool) {
	closed = lits
	for piece := range slices.Chunk(l, api.MaxClauses) {
		if closed, is = prop.Close(n, piece, closed); is {
			break
		}
	}
	return closed, is
}
