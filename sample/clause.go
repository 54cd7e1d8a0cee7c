package sample

import (
	"slices"

	"manciple/cnf"
)

// Clause returns a clause of at most most literals whose variables are from low
// to high. It is drawn by below, which returns a number from 0 to n - 1.
func Clause(below func(n int) int, most, low, high int) cnf.Clause {
	var c cnf.Clause
	for range below(most + 1) {
		c = append(c, (low+below(high-low+1))*(1-2*below(2)))
	}
	return c
}

// DrawnClauses returns clauses of the variables 1 to n, which are at most ten.
// They are drawn by below, as Clause draws them, and are such that many of them
// have a model, and many have none.
func DrawnClauses(below func(n int) int) (n int, l []cnf.Clause) {
	n = 1 + below(10)
	for range below(3 * n) {
		c := Clause(below, 4, 1, n)
		for len(c) < below(3) {
			c = append(c, Clause(below, 2, 1, n)...)
		}
		if len(c) > 0 || below(20) == 0 {
			l = append(l, c)
		}
	}
	return n, l
}

// Clauses returns all clauses of at most most literals of the variables 1 to n.
func Clauses(n, most int) []cnf.Clause {
	l := []cnf.Clause{nil}
	last := l
	for range most {
		var longer []cnf.Clause
		for _, c := range last {
			for v := 1; v <= n; v++ {
				longer = append(longer, append(slices.Clone(c), -v), append(slices.Clone(c), v))
			}
		}
		l = append(l, longer...)
		last = longer
	}
	return l
}

// Models returns all ways in which n variables can be true.
func Models(n int) [][]bool {
	l := [][]bool{nil}
	for range n {
		var longer [][]bool
		for _, m := range l {
			longer = append(longer, append(slices.Clone(m), false), append(slices.Clone(m), true))
		}
		l = longer
	}
	return l
}

// SpacedClauses returns a copy of l in which every list has room beyond its end.
func SpacedClauses(l []cnf.Clause) []cnf.Clause { return spaced.clauses(l) }

// StretchedClauses returns a copy of l in which every list has also what lies
// beyond its end.
func StretchedClauses(l []cnf.Clause) []cnf.Clause { return stretched.clauses(l) }

func (w way) clauses(l []cnf.Clause) []cnf.Clause {
	return list(w, l, cnf.Clause{noLiteral}, func(c cnf.Clause) cnf.Clause { return list(w, c, noLiteral, itself) })
}
