package cnf

import "cmp"

// variable returns the variable of a literal. It is unsigned because the least
// int has no positive counterpart among the ints.
func variable(lit int) uint {
	if lit < 0 {
		return -uint(lit)
	}
	return uint(lit)
}

// byVariable orders literals by their variables, the negated one first.
func byVariable(a, b int) int {
	return cmp.Or(cmp.Compare(variable(a), variable(b)), cmp.Compare(a, b))
}

// isTrue tells whether a literal is true. Of a variable that m does not know,
// neither literal is.
func isTrue(lit int, m []bool) bool {
	v := variable(lit)
	return 1 <= v && v <= uint(len(m)) && m[v-1] == (lit > 0)
}
