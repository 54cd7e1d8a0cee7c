package cnf_test

import (
	"fmt"
	"math"
	"math/rand"
	"slices"
	"testing"

	"manciple/api"
	"manciple/cnf"
	"manciple/sample"
)

// shown writes as much of a thing as a message can bear.
func shown(x any) string { return fmt.Sprintf("%.400s", fmt.Sprint(x)) }

func holdCheck(t *testing.T, n int, c cnf.Clause, want api.Errno) {
	t.Helper()
	if err := cnf.Check(n, c); err != want {
		t.Errorf("Check(%d, %s): %v; want %v", n, shown(c), err, want)
	}
}

func holdCheckAll(t *testing.T, n int, l []cnf.Clause, index int, want api.Errno) {
	t.Helper()
	if i, err := cnf.CheckAll(n, l); i != index || err != want {
		t.Errorf("CheckAll(%d, %s): %d, %v; want %d, %v", n, shown(l), i, err, index, want)
	}
}

func TestP1301Check(t *testing.T) {
	for _, n := range []int{0, 1, 2, 3, 255, api.MaxVars} {
		holdCheck(t, n, nil, api.OK)
		holdCheck(t, n, cnf.Clause{}, api.OK)
		for lit := -n; lit <= n; lit++ {
			want := api.OK
			if lit == 0 {
				want = api.ErrLit
			}
			holdCheck(t, n, cnf.Clause{lit}, want)
			if n > 0 { // literals may be there twice, and need not stand in any order
				holdCheck(t, n, cnf.Clause{n, -1, lit, -n, lit, 1, -lit}, want)
			}
		}
		for _, lit := range []int{0, n + 1, -n - 1, n + 256, -n - 256, 1 << 32, -1 << 32, 1<<32 + 1, math.MaxInt, -math.MaxInt, math.MinInt, math.MinInt + 1} {
			holdCheck(t, n, cnf.Clause{lit}, api.ErrLit)
			if n > 0 {
				holdCheck(t, n, cnf.Clause{lit, 1, n}, api.ErrLit)
				holdCheck(t, n, cnf.Clause{-1, lit, n}, api.ErrLit)
				holdCheck(t, n, cnf.Clause{-1, 1, lit}, api.ErrLit)
			}
		}
	}
}

func TestP1301CheckAtTheLimit(t *testing.T) {
	for _, n := range []int{1, 2, api.MaxVars} {
		full := slices.Repeat(cnf.Clause{1, -n}, api.MaxClause/2)
		holdCheck(t, n, full, api.OK)
		holdCheck(t, n, append(full, 1), api.ErrLong)
		holdCheck(t, n, slices.Repeat(full, 2), api.ErrLong)
		full[api.MaxClause-1] = n + 1
		holdCheck(t, n, full, api.ErrLit)
		holdCheck(t, n, full[:api.MaxClause-1], api.OK)
		// the length ahead of the literals
		holdCheck(t, n, append(full, 1), api.ErrLong)
	}
	holdCheck(t, 0, make(cnf.Clause, api.MaxClause), api.ErrLit)
	holdCheck(t, 0, make(cnf.Clause, api.MaxClause+1), api.ErrLong)
}

var noCounts = []int{-1, -2, -256, math.MinInt, api.MaxVars + 1, api.MaxVars + 2, 2 * api.MaxVars, 1 << 32, math.MaxInt}

func TestP1301CheckOfTheCount(t *testing.T) {
	for _, n := range noCounts {
		// ahead of what is wrong with the clause
		for _, c := range []cnf.Clause{nil, {1}, {-1}, {0}, {math.MaxInt}, {math.MinInt}, make(cnf.Clause, api.MaxClause+1)} {
			holdCheck(t, n, c, api.ErrArg)
			for _, l := range [][]cnf.Clause{nil, {c}, {{1}, c}, {c, {1}, c}} {
				holdCheckAll(t, n, l, 0, api.ErrArg)
			}
		}
		holdCheckAll(t, n, make([]cnf.Clause, api.MaxClauses+1), 0, api.ErrArg)
	}
}

func TestP1301CheckAll(t *testing.T) {
	long := slices.Repeat(cnf.Clause{1}, api.MaxClause+1)
	for n := range api.MaxVars + 1 {
		holdCheckAll(t, n, nil, 0, api.OK)
		holdCheckAll(t, n, []cnf.Clause{}, 0, api.OK)
		holdCheckAll(t, n, []cnf.Clause{nil, {}, nil}, 0, api.OK)
	}
	// clauses may be there twice, and need not stand in any form
	holdCheckAll(t, 3, []cnf.Clause{{1, -2}, {3, 3}, {-1, 1}, {1, -2}, long[1:]}, 0, api.OK)
	for _, c := range []struct {
		wrong cnf.Clause
		want  api.Errno
	}{{cnf.Clause{4}, api.ErrLit}, {cnf.Clause{1, -4}, api.ErrLit}, {cnf.Clause{0}, api.ErrLit}, {long, api.ErrLong}, {make(cnf.Clause, api.MaxClause+1), api.ErrLong}} {
		for at := range 5 {
			l := []cnf.Clause{{1}, nil, {-3, 2}, {3}, {}}
			l[at] = c.wrong
			holdCheckAll(t, 3, l, at, c.want)
			// the first clause that has an error decides
			holdCheckAll(t, 3, append(l, long, cnf.Clause{0}), at, c.want)
			holdCheckAll(t, 3, append(l, cnf.Clause{5}, long), at, c.want)
		}
	}
}

func TestP1301CheckAllAtTheLimit(t *testing.T) {
	l := make([]cnf.Clause, api.MaxClauses+1)
	for i := range l {
		l[i] = cnf.Clause{1, -i%2 - 1}
	}
	holdCheckAll(t, 2, l[:api.MaxClauses], 0, api.OK)
	holdCheckAll(t, 2, l, 0, api.ErrLong)
	l[api.MaxClauses-1] = cnf.Clause{3}
	holdCheckAll(t, 2, l[:api.MaxClauses], api.MaxClauses-1, api.ErrLit)
	// the number of clauses ahead of what is wrong with one of them
	holdCheckAll(t, 2, l, 0, api.ErrLong)
	l[0] = cnf.Clause{0}
	holdCheckAll(t, 2, l, 0, api.ErrLong)
	holdCheckAll(t, 2, l[:api.MaxClauses], 0, api.ErrLit)
}

// checkByItsWords does what P1301 says of Check, word by word.
func checkByItsWords(n int, c cnf.Clause) api.Errno {
	if n < 0 || n > 256 {
		return api.ErrArg
	}
	if len(c) > 256 {
		return api.ErrLong
	}
	for _, lit := range c {
		is := false
		for v := 1; v <= n; v++ {
			is = is || lit == v || lit == -v
		}
		if !is {
			return api.ErrLit
		}
	}
	return api.OK
}

// checkAllByItsWords does what P1301 says of CheckAll, word by word.
func checkAllByItsWords(n int, l []cnf.Clause) (int, api.Errno) {
	if n < 0 || n > 256 {
		return 0, api.ErrArg
	}
	if len(l) > 131072 {
		return 0, api.ErrLong
	}
	for i, c := range l {
		if err := checkByItsWords(n, c); err != api.OK {
			return i, err
		}
	}
	return 0, api.OK
}

func TestP1301CheckAndCheckAllByTheirWords(t *testing.T) {
	random := rand.New(rand.NewSource(1301))
	told := map[api.Errno]int{}
	for range 20000 {
		n := random.Intn(12) - 1
		var l []cnf.Clause
		for range random.Intn(6) {
			c := sample.Clause(random.Intn, 5, 1, max(1, n))
			if random.Intn(10) == 0 {
				c = sample.Clause(random.Intn, 5, 0, n+2)
			}
			if random.Intn(50) == 0 {
				c = append(c, make(cnf.Clause, 254+random.Intn(4))...)
			}
			l = append(l, c)
			holdCheck(t, n, c, checkByItsWords(n, c))
		}
		index, want := checkAllByItsWords(n, l)
		holdCheckAll(t, n, l, index, want)
		told[want]++
	}
	for _, err := range []api.Errno{api.OK, api.ErrArg, api.ErrLong, api.ErrLit} {
		if told[err] < 100 {
			t.Errorf("%v came up %d times only", err, told[err])
		}
	}
}

func holdHolds(t *testing.T, c cnf.Clause, m []bool, want bool) {
	t.Helper()
	if got := cnf.Holds(c, m); got != want {
		t.Errorf("Holds(%s, %s): %v; want %v", shown(c), shown(m), got, want)
	}
}

func TestP1301Holds(t *testing.T) {
	m := []bool{true, false, true}
	for _, c := range []struct {
		c    cnf.Clause
		want bool
	}{
		{nil, false},
		{cnf.Clause{}, false},
		{cnf.Clause{1}, true},
		{cnf.Clause{-1}, false},
		{cnf.Clause{2}, false},
		{cnf.Clause{-2}, true},
		{cnf.Clause{3}, true},
		{cnf.Clause{-3}, false},
		{cnf.Clause{-1, 2, -3}, false},
		{cnf.Clause{-1, 2, 3}, true},
		{cnf.Clause{-1, -2, -3}, true},
		{cnf.Clause{1, 2, -3}, true},
		{cnf.Clause{-1, -1, -3, -1}, false},
		{cnf.Clause{2, -2}, true},
		{cnf.Clause{-1, 1}, true},
	} {
		holdHolds(t, c.c, m, c.want)
	}
}

func TestP1301HoldsBeyondTheModel(t *testing.T) {
	for n := range 5 {
		for _, m := range sample.Models(n) {
			for _, lit := range []int{0, n + 1, -n - 1, n + 2, -n - 2, 256, -256, 1 << 32, -1 << 32, math.MaxInt, -math.MaxInt, math.MinInt} {
				holdHolds(t, cnf.Clause{lit}, m, false)
				holdHolds(t, cnf.Clause{0, lit, lit, -lit}, m, false)
				if n > 0 { // the others count nevertheless
					holdHolds(t, cnf.Clause{lit, 1}, m, m[0])
					holdHolds(t, cnf.Clause{-n, lit}, m, !m[n-1])
				}
			}
		}
	}
	m := make([]bool, 1000)
	holdHolds(t, cnf.Clause{1000}, m, false)
	holdHolds(t, cnf.Clause{-1000}, m, true)
	holdHolds(t, cnf.Clause{-1001}, m, false)
}

// holdsByItsWords does what P1301 says of Holds, word by word.
func holdsByItsWords(c cnf.Clause, m []bool) bool {
	for _, lit := range c {
		for v := 1; v <= len(m); v++ {
			if lit == v && m[v-1] || lit == -v && !m[v-1] {
				return true
			}
		}
	}
	return false
}

func TestP1301HoldsByItsWords(t *testing.T) {
	for _, c := range sample.Clauses(3, 4) {
		for n := range 4 {
			for _, m := range sample.Models(n) {
				holdHolds(t, c, m, holdsByItsWords(c, m))
			}
		}
	}
}

func holdFirst(t *testing.T, l []cnf.Clause, m []bool, want int) {
	t.Helper()
	if got := cnf.First(l, m); got != want {
		t.Errorf("First(%s, %s): %d; want %d", shown(l), shown(m), got, want)
	}
}

func TestP1301First(t *testing.T) {
	m := []bool{true, false, true}
	holdFirst(t, nil, nil, -1)
	holdFirst(t, nil, m, -1)
	holdFirst(t, []cnf.Clause{}, m, -1)
	holdFirst(t, []cnf.Clause{nil}, nil, 0)
	holdFirst(t, []cnf.Clause{{}}, m, 0)
	holdFirst(t, []cnf.Clause{{1}, {-2}, {3}}, m, -1)
	holdFirst(t, []cnf.Clause{{1}, {-2}, {2, -3}, {}}, m, 2)
	holdFirst(t, []cnf.Clause{{-1}, {-1}, {1}}, m, 0)
	holdFirst(t, []cnf.Clause{{1}, {2}, {2}, {1}}, m, 1)
	holdFirst(t, []cnf.Clause{{1}, {1}, {1}, {2}}, m, 3)
	holdFirst(t, []cnf.Clause{{1}, {4}, {2}}, m, 1)
	holdFirst(t, []cnf.Clause{{1}, {-4}, {2}}, m, 1)
	holdFirst(t, []cnf.Clause{{1, -1}}, nil, 0)
	for n := range 20 {
		holdFirst(t, slices.Repeat([]cnf.Clause{{1}}, n), m, -1)
		holdFirst(t, append(slices.Repeat([]cnf.Clause{{1}}, n), nil, nil), m, n)
	}
	holdFirst(t, slices.Repeat([]cnf.Clause{{1, -2}}, api.MaxClauses), m, -1)
	holdFirst(t, append(slices.Repeat([]cnf.Clause{{-2}}, api.MaxClauses), cnf.Clause{2}), m, api.MaxClauses)
}

// firstByItsWords does what P1301 says of First, word by word.
func firstByItsWords(l []cnf.Clause, m []bool) int {
	for i, c := range l {
		if !holdsByItsWords(c, m) {
			return i
		}
	}
	return -1
}

func TestP1301FirstByItsWords(t *testing.T) {
	random := rand.New(rand.NewSource(1))
	told := map[int]int{}
	for range 5000 {
		var l []cnf.Clause
		for range random.Intn(6) {
			l = append(l, sample.Clause(random.Intn, 4, 0, 5))
		}
		for _, m := range sample.Models(random.Intn(5)) {
			want := firstByItsWords(l, m)
			holdFirst(t, l, m, want)
			told[want]++
		}
	}
	for want := -1; want < 4; want++ {
		if told[want] < 100 {
			t.Errorf("%d came up %d times only", want, told[want])
		}
	}
}

func TestP1301Same(t *testing.T) {
	different := [][]cnf.Clause{
		nil, {nil}, {nil, nil}, {{1}}, {{-1}}, {{2}}, {{0}}, {{1, 1}}, {{1, 2}}, {{2, 1}}, {{1}, {2}}, {{2}, {1}}, {{1}, nil}, {nil, {1}},
		{{1}, {1}}, {{1, 2}, nil}, {nil, {1, 2}}, {{1}, {2}, nil}, {{math.MinInt}}, {{math.MaxInt}}, {{-math.MaxInt}}, {{1 << 32}},
		{make(cnf.Clause, 300)}, {make(cnf.Clause, 301)}, make([]cnf.Clause, api.MaxClauses+1), make([]cnf.Clause, api.MaxClauses+2),
	}
	for i, a := range different {
		for k, b := range different {
			if cnf.Same(a, sample.SpacedClauses(b)) != (i == k) {
				t.Errorf("Same(%s, %s): %v", shown(a), shown(b), i != k)
			}
		}
	}
	if !cnf.Same(nil, []cnf.Clause{}) || !cnf.Same([]cnf.Clause{}, nil) || !cnf.Same([]cnf.Clause{nil}, []cnf.Clause{{}}) {
		t.Error("Same: a nil list is not as an empty one")
	}
}
