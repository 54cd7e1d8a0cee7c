package trail

import (
	"slices"

	"manciple/api"
	"manciple/cnf"
	"manciple/fault"
)

func (s step) isImplied() bool { return s.reason != none }

// requireNew panics with an api.Errno unless lit is a literal of a variable
// that is not in the trail.
func (t *Trail) requireNew(lit int) {
	v := variable(lit)
	fault.Require(t.has(v), api.ErrLit)
	fault.Require(t.places[v-1] == none, api.ErrTwice)
}

func (t *Trail) add(s step) {
	t.places[variable(s.lit)-1] = len(t.steps)
	t.steps = append(t.steps, s)
}

func (t *Trail) removeLast() {
	last := len(t.steps) - 1
	t.places[variable(t.steps[last].lit)-1] = none
	t.steps = t.steps[:last]
}

// has tells whether v is one of the variables of t.
func (t *Trail) has(v int) bool { return 1 <= v && v <= len(t.places) }

// place returns the index of the step of variable v, or none.
func (t *Trail) place(v int) int {
	if !t.has(v) {
		return none
	}
	return t.places[v-1]
}

// find returns the step of variable v, and whether there is one.
func (t *Trail) find(v int) (step, bool) {
	i := t.place(v)
	if i == none {
		return step{}, false
	}
	return t.steps[i], true
}

// isExplained tells whether l has the reason of step i, the literal of the step
// is in that clause, and the negations of all others of it came before.
func (t *Trail) isExplained(i int, l []cnf.Clause) bool {
	s := t.steps[i]
	if s.reason >= len(l) {
		return false
	}
	c := l[s.reason]
	remains := func(lit int) bool { return lit != s.lit && !t.isFalseBefore(i, lit) }
	return slices.Contains(c, s.lit) && !slices.ContainsFunc(c, remains)
}

// isFalseBefore tells whether the negation of lit came before step i.
func (t *Trail) isFalseBefore(i, lit int) bool {
	return t.Value(lit) < 0 && t.place(variable(lit)) < i
}

// variable returns the variable of lit. The least int, which has no positive
// counterpart, stays as it is, and is no variable.
func variable(lit int) int { return max(lit, -lit) }
