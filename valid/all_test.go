package valid_test

import (
	"fmt"
	"math"
	"math/rand"
	"slices"
	"strconv"
	"testing"

	"manciple/api"
	"manciple/ask"
	"manciple/lock"
	"manciple/repo"
	"manciple/rule"
	"manciple/sample"
	"manciple/valid"
)

// every lists the numbers of all rules.
func every(r repo.Repo, l []ask.Ask) []int {
	var numbers []int
	for number := range rule.All(r, l) {
		numbers = append(numbers, number)
	}
	return numbers
}

// numbered returns a repository of n packages that have no rules but one of
// their name each.
func numbered(n int) repo.Repo {
	var titles []string
	for i := range n {
		titles = append(titles, "p"+strconv.Itoa(100+i)+" 1")
	}
	return sample.Packages(titles...)
}

func shown(sets [][]int) string { return fmt.Sprintf("%.400s", fmt.Sprint(sets)) }

func holdAll(t *testing.T, r repo.Repo, k lock.Lock, l []ask.Ask, rules []int, want ...[]int) {
	t.Helper()
	sets, err := valid.All(r, k, l, rules)
	if err != api.OK || !slices.EqualFunc(sets, want, slices.Equal) {
		t.Errorf("All of the rules %v: %s, %v; want %s", rules, shown(sets), err, shown(want))
	}
}

func holdAllError(t *testing.T, r repo.Repo, k lock.Lock, l []ask.Ask, rules []int, want api.Errno) {
	t.Helper()
	if sets, err := valid.All(r, k, l, rules); err != want || len(sets) > 0 {
		t.Errorf("All of %d packages: %s, %v; want %v", len(r), shown(sets), err, want)
	}
}

func TestP1101AllOfTheExample(t *testing.T) {
	r, l := example()
	holdAll(t, r, nil, l, []int{0, 1, 2, 3, 4, 5, 6}, []int{0, 2}, []int{0, 3}, []int{1, 3}, []int{0, 2, 4})
}

func TestP1101AllOfSomeRules(t *testing.T) {
	r, l := example()
	// without what b 2 refuses
	holdAll(t, r, nil, l, []int{0, 1, 3, 4, 6}, []int{0, 2}, []int{0, 3}, []int{1, 3}, []int{0, 2, 4}, []int{0, 3, 4}, []int{1, 3, 4})
	// without the request
	holdAll(t, r, nil, l, []int{0, 1, 2, 3, 4, 5}, nil, []int{2}, []int{0, 2}, []int{3}, []int{0, 3}, []int{1, 3}, []int{4}, []int{2, 4}, []int{0, 2, 4})
	// of the first two packages alone the rules 0 to 3 are: only one a, the two needs, the request
	holdAll(t, r[:2], nil, l, []int{3}, []int{0}, []int{1}, []int{0, 1})
	holdAll(t, r[:2], nil, l, []int{0, 3}, []int{0}, []int{1})
	holdAll(t, r[:2], nil, l, []int{1, 2}, nil)
	holdAll(t, r[:2], nil, l, []int{1, 2, 3})
}

func TestP1101AllWithoutRules(t *testing.T) {
	r, l := example()
	holdAll(t, r[:3], nil, l, nil, nil, []int{0}, []int{1}, []int{0, 1}, []int{2}, []int{0, 2}, []int{1, 2}, []int{0, 1, 2})
	holdAll(t, r[:1], nil, l, []int{}, nil, []int{0})
}

func TestP1101AllOfNoPackages(t *testing.T) {
	holdAll(t, nil, nil, nil, nil, nil)
	holdAll(t, nil, sample.Installed("a 1"), sample.Requests("remove a", "pin a"), []int{0, 1}, nil)
	holdAll(t, repo.Repo{}, nil, sample.Requests("remove a", "install a"), []int{0, 1})
	holdAll(t, nil, nil, sample.Requests("remove a", "install a"), []int{0}, nil)
}

func TestP1101AllIgnoresOtherNumbers(t *testing.T) {
	r, l := example()
	want := [][]int{{0, 2}, {0, 3}, {1, 3}, {0, 2, 4}}
	holdAll(t, r, nil, l, []int{0, 1, 2, 3, 4, 5, 6, 7}, want...)
	holdAll(t, r, nil, l, []int{-1, 6, 5, 4, 3, 2, 1, 0, math.MaxInt, math.MinInt, 1 << 32}, want...)
	holdAll(t, r, nil, l, []int{3, 3, 0, 6, 1, 2, 6, 5, -7, 4, 0}, want...)
	// a number is not one of another rule, counted from the end or around
	holdAll(t, r[:1], nil, l, []int{-1, -2, -3, 3, 4, 6, 1<<32 + 2}, nil, []int{0})
	holdAll(t, r[:1], nil, nil, []int{2}, nil, []int{0})
	holdAll(t, r, nil, l, slices.Repeat([]int{6, -1, 0, 1, 2, 3, 4, 5}, 1<<15), want...)
}

func TestP1101AllWithWhatIsInstalled(t *testing.T) {
	r := sample.Packages("a 1", "a 2")
	l := sample.Requests("upgrade a")
	holdAll(t, r, nil, l, []int{0, 1}, []int{0}, []int{1})
	holdAll(t, r, sample.Installed("a 1"), l, []int{0, 1}, []int{1})
	holdAll(t, r, sample.Installed("a 2"), l, []int{0, 1})
	holdAll(t, r, sample.Installed("a 2"), l, []int{0}, nil, []int{0}, []int{1})
}

func TestP1101AllInOrder(t *testing.T) {
	for n := range 13 {
		sets, err := valid.All(numbered(n), nil, nil, nil)
		if err != api.OK || len(sets) != 1<<n {
			t.Fatalf("All of %d packages: %d sets, %v", n, len(sets), err)
		}
		for bits, set := range sets {
			if !slices.Equal(set, sample.Subset(bits, n)) {
				t.Fatalf("All of %d packages: set %d is %v", n, bits, set)
			}
		}
	}
}

func TestP1101AllOfTwelvePackages(t *testing.T) {
	r := numbered(12)
	l := sample.Requests("install p100", "install p111", "remove p105")
	var want [][]int
	for bits := range 1 << 12 {
		if bits&1 == 1 && bits>>11 == 1 && bits>>5&1 == 0 {
			want = append(want, sample.Subset(bits, 12))
		}
	}
	holdAll(t, r, nil, l, every(r, l), want...)
}

func TestP1101AllOfTooManyPackages(t *testing.T) {
	for _, n := range []int{13, 14, 63, api.MaxPkgs} {
		r, l := numbered(n), sample.Requests("install p100")
		for _, rules := range [][]int{nil, {0}, every(r, l), {-1, math.MaxInt}} {
			holdAllError(t, r, nil, l, rules, api.ErrMany)
		}
	}
	r, l := sample.Full()
	holdAllError(t, r, nil, l, every(r, l), api.ErrMany)
	// no rule could hold, yet there are too many packages
	holdAllError(t, numbered(13), nil, sample.Requests("install a", "remove a"), []int{13, 14}, api.ErrMany)
}

// allByItsWords does what P1101 says of All, word by word.
func allByItsWords(r repo.Repo, k lock.Lock, l []ask.Ask, rules []int) [][]int {
	var sets [][]int
	for bits := range 1 << len(r) {
		set, holds := sample.Subset(bits, len(r)), true
		for number, x := range rule.All(r, l) {
			holds = holds && (!slices.Contains(rules, number) || rule.Holds(x, r, k, l, set))
		}
		if holds {
			sets = append(sets, set)
		}
	}
	return sets
}

func TestP1101AllByItsWords(t *testing.T) {
	random := rand.New(rand.NewSource(11))
	some := 0
	for range 1000 {
		r, k, l := sample.Drawn(random.Intn)
		n := len(every(r, l))
		var rules []int
		for range random.Intn(n + 3) {
			rules = append(rules, random.Intn(n+4)-2)
		}
		want := allByItsWords(r, k, l, rules)
		holdAll(t, r, k, l, rules, want...)
		if 0 < len(want) && len(want) < 1<<len(r) {
			some++
		}
	}
	if some < 300 {
		t.Errorf("only %d times were some sets allowed and others not", some)
	}
}

func TestT1AllOfEveryRuleIsWhatSetAccepts(t *testing.T) {
	random := rand.New(rand.NewSource(1))
	for range 1000 {
		r, k, l := sample.Drawn(random.Intn)
		var want [][]int
		for bits := range 1 << len(r) {
			if set := sample.Subset(bits, len(r)); valid.Set(r, k, l, set) {
				want = append(want, set)
			}
		}
		holdAll(t, r, k, l, every(r, l), want...)
	}
}
