package cnf_test

import (
	"math"
	"math/rand"
	"slices"
	"testing"

	"manciple/cnf"
	"manciple/sample"
)

func holdNorm(t *testing.T, c, want cnf.Clause, ok bool) {
	t.Helper()
	if got, fine := cnf.Norm(c); !slices.Equal(got, want) || fine != ok {
		t.Errorf("Norm(%s): %s, %v; want %s, %v", shown(c), shown(got), fine, shown(want), ok)
	}
}

func TestP1301Norm(t *testing.T) {
	for _, c := range []struct{ c, want cnf.Clause }{
		{nil, nil},
		{cnf.Clause{}, nil},
		{cnf.Clause{1}, cnf.Clause{1}},
		{cnf.Clause{-9}, cnf.Clause{-9}},
		{cnf.Clause{5, 5, -2, 5, -2}, cnf.Clause{-2, 5}},
		{cnf.Clause{3, -1, 2}, cnf.Clause{-1, 2, 3}},
		// by the variables, not by the literals
		{cnf.Clause{-3, -2, -1}, cnf.Clause{-1, -2, -3}},
		{cnf.Clause{-3, 1, -2}, cnf.Clause{1, -2, -3}},
		{cnf.Clause{2, -10, 9}, cnf.Clause{2, 9, -10}},
		{cnf.Clause{7, 7}, cnf.Clause{7}},
		{cnf.Clause{-7, -7, -7}, cnf.Clause{-7}},
		{cnf.Clause{2, 1, 2, 1}, cnf.Clause{1, 2}},
		{cnf.Clause{256, -1, 255, -1}, cnf.Clause{-1, 255, 256}},
		// it is of any literals, not of those of 256 variables
		{cnf.Clause{-1 << 40, 257, -300}, cnf.Clause{257, -300, -1 << 40}},
		{cnf.Clause{math.MaxInt, 1, -2}, cnf.Clause{1, -2, math.MaxInt}},
		{cnf.Clause{-math.MaxInt, math.MaxInt - 1, -math.MaxInt}, cnf.Clause{math.MaxInt - 1, -math.MaxInt}},
		// the least literal's variable is the greatest of all
		{cnf.Clause{math.MinInt, 1, math.MinInt}, cnf.Clause{1, math.MinInt}},
		{cnf.Clause{math.MinInt, math.MaxInt, -1}, cnf.Clause{-1, math.MaxInt, math.MinInt}},
		{cnf.Clause{math.MinInt, -math.MaxInt}, cnf.Clause{-math.MaxInt, math.MinInt}},
	} {
		holdNorm(t, c.c, c.want, true)
		holdNorm(t, c.want, c.want, true)
	}
}

func TestP1301NormOfWhatAlwaysHolds(t *testing.T) {
	for _, c := range []cnf.Clause{
		{1, -1}, {-1, 1}, {2, 7, -2, 1}, {1, 2, 3, -1}, {-3, 1, 2, 3}, {1, 1, -1}, {-5, -5, 5, 5}, {1, -1, 2, -2}, {256, 1, -256},
		{math.MaxInt, -math.MaxInt}, {math.MinInt, -math.MaxInt, math.MaxInt}, {-1 << 40, 3, 1 << 40},
	} {
		holdNorm(t, c, nil, false)
	}
}

func TestP1301NormOfLongClauses(t *testing.T) {
	random := rand.New(rand.NewSource(2))
	for _, n := range []int{256, 257, 1000, 1 << 16} {
		var want cnf.Clause
		for v := 1; v <= n; v++ {
			want = append(want, v*(1-v%2*2))
		}
		c := slices.Repeat(want, 3)
		random.Shuffle(len(c), func(i, k int) { c[i], c[k] = c[k], c[i] })
		holdNorm(t, c, want, true)
		holdNorm(t, append(c, 1), nil, false)
		holdNorm(t, append(cnf.Clause{-want[n-1]}, c...), nil, false)
	}
}

// normByItsWords does what P1301 says of Norm, word by word, for literals of
// the variables 1 to n.
func normByItsWords(n int, c cnf.Clause) (cnf.Clause, bool) {
	var normed cnf.Clause
	for v := 1; v <= n; v++ {
		if slices.Contains(c, -v) && slices.Contains(c, v) {
			return nil, false
		}
		for _, lit := range []int{-v, v} {
			if slices.Contains(c, lit) {
				normed = append(normed, lit)
			}
		}
	}
	return normed, true
}

func TestP1301NormByItsWords(t *testing.T) {
	for _, c := range sample.Clauses(3, 5) {
		want, ok := normByItsWords(3, c)
		holdNorm(t, c, want, ok)
	}
	random := rand.New(rand.NewSource(1))
	normed := 0
	for range 10000 {
		n := 1 + random.Intn(40)
		c := sample.Clause(random.Intn, 12, 1, n)
		want, ok := normByItsWords(n, c)
		holdNorm(t, c, want, ok)
		if ok && !slices.Equal(c, want) {
			normed++
		}
	}
	if normed < 1000 {
		t.Errorf("only %d clauses were changed", normed)
	}
}

// TestP1301NormMeansTheSame: where a clause has a form, it holds exactly where
// its form holds, and where it has none, it always holds.
func TestP1301NormMeansTheSame(t *testing.T) {
	for _, c := range sample.Clauses(3, 4) {
		normed, ok := cnf.Norm(c)
		for _, m := range sample.Models(3) {
			if want := !ok || cnf.Holds(normed, m); cnf.Holds(c, m) != want {
				t.Errorf("%v holds for %v: %v; its form is %v, %v", c, m, !want, normed, ok)
			}
		}
	}
}
