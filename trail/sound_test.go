package trail_test

import (
	"math"
	"math/rand"
	"slices"
	"testing"

	"manciple/api"
	"manciple/cnf"
	"manciple/prop"
	"manciple/sample"
	"manciple/trail"
)

func holdSound(t *testing.T, x *trail.Trail, l []cnf.Clause, want bool) {
	t.Helper()
	if got := trail.Sound(x, l); got != want {
		t.Errorf("Sound(%s, %s): %v; want %v", told(x, 5), shown(l), got, want)
	}
}

func TestP1701SoundOfOneReason(t *testing.T) {
	first, last := []ask{decide(-1), decide(2)}, []ask{decide(4), decide(-5)}
	for _, c := range []struct {
		clause cnf.Clause
		want   bool
	}{
		// 3 was implied after -1 and 2, and before 4 and -5
		{cnf.Clause{1, -2, 3}, true},
		{cnf.Clause{3, -2, 1}, true},
		{cnf.Clause{1, 3}, true},
		{cnf.Clause{3, -2}, true},
		{cnf.Clause{3}, true},
		{cnf.Clause{3, 3, 1, 3, 1}, true},
		// it is not there, or its negation is
		{cnf.Clause{}, false},
		{cnf.Clause{1, -2}, false},
		{cnf.Clause{-3}, false},
		{cnf.Clause{1, -2, -3}, false},
		{cnf.Clause{3, -3}, false},
		{cnf.Clause{-3, 1, 3}, false},
		// another one is true
		{cnf.Clause{-1, 3}, false},
		{cnf.Clause{3, 1, 2}, false},
		{cnf.Clause{1, -1, 3}, false},
		// another one became false only later, or true
		{cnf.Clause{1, -2, 3, -4}, false},
		{cnf.Clause{3, 5}, false},
		{cnf.Clause{5, 3, 1}, false},
		{cnf.Clause{-5, 3, 1}, false},
		{cnf.Clause{4, 3}, false},
		// another one is not in the trail
		{cnf.Clause{1, 3, 6}, false},
		{cnf.Clause{-6, -2, 3}, false},
		// what is no literal is not false
		{cnf.Clause{0, 3}, false},
		{cnf.Clause{3, 7}, false},
		{cnf.Clause{3, -7}, false},
		{cnf.Clause{3, math.MinInt}, false},
		{cnf.Clause{math.MaxInt, 3}, false},
	} {
		whole := slices.Concat(first, []ask{imply(3, 1)}, last)
		holdSound(t, after(t, 6, whole...), []cnf.Clause{{}, c.clause, {}}, c.want)
		holdSound(t, after(t, 6, whole[:3]...), []cnf.Clause{{}, c.clause}, c.want)
		// what the other clauses are plays no part
		holdSound(t, after(t, 6, whole...), []cnf.Clause{{3}, c.clause, {3}}, c.want)
		// nor does the level
		holdSound(t, after(t, 6, imply(-1, 0), imply(2, 2), imply(3, 1)), []cnf.Clause{{-1}, c.clause, {2}}, c.want)
		// and what is negated throughout is the same
		holdSound(t, negated(t, whole), []cnf.Clause{{}, negation(c.clause)}, c.want)
	}
}

// negated returns the trail for six variables of these calls with the negations
// of all literals.
func negated(t *testing.T, asks []ask) *trail.Trail {
	t.Helper()
	var l []ask
	for _, a := range asks {
		a.x = -a.x
		l = append(l, a)
	}
	return after(t, 6, l...)
}

func negation(c cnf.Clause) cnf.Clause {
	var out cnf.Clause
	for _, lit := range c {
		out = append(out, -lit)
	}
	return out
}

func TestP1701SoundOfDecisions(t *testing.T) {
	for _, l := range [][]cnf.Clause{nil, {{}}, {{1}, {-2}}, {{-1}, {2}}} {
		holdSound(t, made(t, 0), l, true)
		holdSound(t, made(t, 5), l, true)
		// a decision needs no reason, even against the clauses
		holdSound(t, after(t, 5, decide(1), decide(-2)), l, true)
		// what was removed needs none any more
		holdSound(t, after(t, 5, decide(1), imply(5, 99), back(0)), l, true)
		holdSound(t, after(t, 5, decide(1), imply(5, 99), back(0), decide(5)), l, true)
	}
}

func TestP1701SoundOfIndices(t *testing.T) {
	l := []cnf.Clause{{1}, {2}, {3}}
	for _, reason := range []int{0, 1, 2, 3, 4, 1 << 32, 1<<32 + 2, math.MaxInt} {
		x := after(t, 3, imply(3, reason))
		holdSound(t, x, l, reason == 2)
		holdSound(t, x, l[:2], false)
		holdSound(t, x, nil, false)
		holdSound(t, x, append(slices.Clone(l), make([]cnf.Clause, 10)...), reason == 2)
	}
	// a reason beyond the end is not one that lies in the spare capacity
	x := after(t, 3, imply(3, 2))
	holdSound(t, x, l[:2:3], false)
	if trail.Sound(x, l[:2]) {
		t.Error("Sound goes by what lies beyond the end of the clauses")
	}
}

// TestP1701SoundOfEveryStep: the whole is sound if each of its implied literals
// is.
func TestP1701SoundOfEveryStep(t *testing.T) {
	l := []cnf.Clause{{-2}, {2, -4, -1}, {1, -3, 5}, {9}}
	asks := []ask{imply(-2, 0), decide(4), imply(-1, 1), decide(3), imply(5, 2)}
	for length := range len(asks) + 1 {
		holdSound(t, after(t, 5, asks[:length]...), l, true)
	}
	for i, a := range asks {
		if a.what != "imply" {
			continue
		}
		for reason := range l {
			wrong := slices.Clone(asks)
			wrong[i].reason = reason
			holdSound(t, after(t, 5, wrong...), l, reason == a.reason)
			holdSound(t, after(t, 5, wrong[:i]...), l, true)
		}
	}
	// the same in another order
	holdSound(t, after(t, 5, decide(3), imply(-2, 0), decide(4), imply(-1, 1), imply(5, 2)), l, true)
	holdSound(t, after(t, 5, imply(-2, 0), imply(-1, 1), decide(4)), l, false)
	holdSound(t, after(t, 5, decide(4), imply(-1, 1), imply(-2, 0)), l, false)
}

// TestP1701SoundAfterBack: what came before is what is in the trail now.
func TestP1701SoundAfterBack(t *testing.T) {
	l := []cnf.Clause{{-1, 2}, {-2, 3}}
	x := after(t, 3, decide(1), imply(2, 0), imply(3, 1))
	holdSound(t, x, l, true)
	holdErr(t, x, back(0), api.OK)
	for _, a := range []ask{imply(3, 1), imply(2, 0), decide(1)} {
		holdErr(t, x, a, api.OK)
		holdSound(t, x, l, false)
	}
	holdErr(t, x, back(0), api.OK)
	holdLits(t, x, 0, 3, 2)
	holdSound(t, x, l, false)
}

// soundByItsWords does what P1701 says of Sound, word by word.
func soundByItsWords(x *trail.Trail, l []cnf.Clause) bool {
	lits := x.Lits()
	for i, lit := range lits {
		reason := x.Reason(max(lit, -lit))
		if reason < 0 {
			continue
		}
		if reason >= len(l) {
			return false
		}
		contains := false
		for _, other := range l[reason] {
			if other == lit {
				contains = true
			} else if !slices.Contains(lits[:i], -other) {
				return false
			}
		}
		if !contains {
			return false
		}
	}
	return true
}

// drawnTrail returns a trail of which most literals are implied by clauses of l
// of which one literal remains.
func drawnTrail(t *testing.T, random *rand.Rand, n int, l []cnf.Clause) *trail.Trail {
	t.Helper()
	x := made(t, n)
	for range random.Intn(3 * n) {
		lit := (1 + random.Intn(n)) * (1 - 2*random.Intn(2))
		switch random.Intn(30) {
		case 0:
			x.Imply(lit, random.Intn(len(l)+1))
		case 1:
			x.Back(random.Intn(x.Deep() + 1))
		case 2, 3, 4:
			x.Decide(lit)
		}
		for i, c := range l {
			closed, contradicts := prop.Close(n, []cnf.Clause{c}, x.Lits())
			for _, lit := range closed {
				if !contradicts && x.Value(lit) == 0 {
					x.Imply(lit, i)
				}
			}
		}
	}
	return x
}

func TestP1701SoundByItsWords(t *testing.T) {
	random := rand.New(rand.NewSource(1702))
	count, implied := map[bool]int{}, map[bool]int{}
	for range 3000 {
		n, l := sample.DrawnClauses(random.Intn)
		x := drawnTrail(t, random, n, l)
		want := soundByItsWords(x, l)
		holdSound(t, x, l, want)
		count[want]++
		for _, lit := range x.Lits() {
			if x.Reason(max(lit, -lit)) >= 0 {
				implied[want]++
			}
		}
		// with the clauses in another order
		random.Shuffle(len(l), func(i, j int) { l[i], l[j] = l[j], l[i] })
		holdSound(t, x, l, soundByItsWords(x, l))
	}
	for _, want := range []bool{false, true} {
		if count[want] < 300 || implied[want] < 1000 {
			t.Errorf("%v came up %d times only, with %d implied literals", want, count[want], implied[want])
		}
	}
}

// TestP1701SoundOfAllClauses: each clause of at most three literals as the
// reason of each literal of several trails.
func TestP1701SoundOfAllClauses(t *testing.T) {
	for _, c := range sample.Clauses(3, 4) {
		for place := range 4 {
			for _, lit := range []int{1, -1} {
				asks := []ask{decide(2), decide(-3)}
				asks = slices.Insert(asks, min(place, len(asks)), imply(lit, 0))
				x := after(t, 3, asks...)
				holdSound(t, x, []cnf.Clause{c}, soundByItsWords(x, []cnf.Clause{c}))
			}
		}
	}
}

func TestP1701SoundOfLongClauses(t *testing.T) {
	n := api.MaxVars
	var c cnf.Clause
	x := made(t, n)
	for v := 1; v < n; v++ {
		c = append(c, -v)
		holdErr(t, x, decide(v), api.OK)
	}
	c = append(c, n)
	holdErr(t, x, imply(n, 0), api.OK)
	holdSound(t, x, []cnf.Clause{c}, true)
	for i := range c {
		c[i] = -c[i]
		holdSound(t, x, []cnf.Clause{c}, false)
		c[i] = -c[i]
	}
}
