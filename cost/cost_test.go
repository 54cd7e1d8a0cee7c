package cost_test

import (
	"math"
	"math/rand"
	"slices"
	"strconv"
	"testing"

	"manciple/api"
	"manciple/ask"
	"manciple/cost"
	"manciple/lock"
	"manciple/repo"
	"manciple/sample"
	"manciple/ver"
	"manciple/weight"
)

// example returns packages of which those of one name are not preferred as they
// stand, and what is installed. The numbers are: 0 to 3 a 1 to a 4, with the
// chapter's Weights; 4, 5 b; 6 c; the ranks: 1, 2, 0, 3; 1, 0; 0.
func example() (repo.Repo, lock.Lock) {
	return sample.Packages(
		"a 1 / Weight: 1p0",
		"a 2",
		"a 3 / Weight: 1p0",
		"a 4 / Weight: -0",
		"b 1",
		"b 2",
		"c 1 / Provides: a; d = 2",
	), sample.Installed("b 1", "d 1", "e 7")
}

func holdRanks(t *testing.T, r repo.Repo, want ...int) {
	t.Helper()
	if got := cost.Ranks(r); !slices.Equal(got, want) {
		t.Errorf("Ranks: %v; want %v", got, want)
	}
}

func TestP1201RanksOfTheExample(t *testing.T) {
	r, _ := example()
	holdRanks(t, r[:4], 1, 2, 0, 3)
	holdRanks(t, r, 1, 2, 0, 3, 1, 0, 0)
}

func TestP1201RanksOfLittle(t *testing.T) {
	holdRanks(t, nil)
	holdRanks(t, repo.Repo{})
	holdRanks(t, sample.Packages("a 1"), 0)
	holdRanks(t, sample.Packages("a 1", "b 1", "c 1 / Weight: 1p0"), 0, 0, 0)
}

// TestP1201RanksByVersion has packages of one Weight each.
func TestP1201RanksByVersion(t *testing.T) {
	holdRanks(t, sample.Packages("a 1", "a 2", "a 3", "b 1", "b 2"), 2, 1, 0, 1, 0)
	holdRanks(t, sample.Packages("a 1~1", "a 1", "a 1-1", "a 1.9", "a 1.10", "a 1:0"), 5, 4, 3, 2, 1, 0)
	holdRanks(t, sample.Packages("a 9 / Weight: inf", "a 10 / Weight: inf"), 1, 0)
	holdRanks(t, sample.Packages("a 9 / Weight: -0", "a 10 / Weight: -0"), 1, 0)
	holdRanks(t, sample.Packages("a 9 / Weight: -3p-7", "a 10 / Weight: -3p-7"), 1, 0)
}

// ascending are weights in the order of chapter 2.
var ascending = []string{"-inf", "-1p1023", "-3p0", "-1p0", "-1p-1074", "-0", "0", "1p-1074", "1p-1", "1p0", "4503599627370497p-52", "3p0", "1p1023", "inf"}

func TestP1201RanksByWeight(t *testing.T) {
	for i, low := range ascending {
		for k, high := range ascending {
			r := sample.Packages("a 1 / Weight: "+low, "a 2 / Weight: "+high)
			if i > k {
				holdRanks(t, r, 0, 1)
			} else {
				holdRanks(t, r, 1, 0)
			}
		}
	}
}

func TestP1201RanksOfEveryWeight(t *testing.T) {
	var stanzas []string
	var want []int
	for i, w := range slices.Backward(ascending) {
		stanzas = append(stanzas, "a "+strconv.Itoa(len(ascending)-i)+" / Weight: "+w)
		want = append(want, len(want))
	}
	holdRanks(t, sample.Packages(stanzas...), want...)
}

func TestP1201RanksAreOfOneName(t *testing.T) {
	// neither what is provided nor another name counts, however great the weight
	holdRanks(t, sample.Packages(
		"a 1",
		"a 2 / Weight: -1p0",
		"a 3 / Provides: b = 9 / Weight: 1p0",
		"aa 3 / Provides: a = 9 / Weight: inf",
		"b 1 / Provides: a; a = 1 / Weight: 1p9",
	), 1, 2, 0, 0, 0)
}

// many returns as many packages as may be, n of each name. The weights fall as
// the versions rise.
func many(n int) repo.Repo {
	var stanzas []string
	for i := range api.MaxPkgs {
		stanzas = append(stanzas, "p"+strconv.Itoa(100+i/n)+" "+strconv.Itoa(i%n)+" / Weight: "+weight.Text(-float64(i%n)))
	}
	return sample.Packages(stanzas...)
}

func TestP1201RanksAtTheLimit(t *testing.T) {
	for _, n := range []int{1, 2, 8, 63, api.MaxPkgs} {
		var want []int
		for i := range api.MaxPkgs {
			want = append(want, i%n)
		}
		holdRanks(t, many(n), want...)
	}
}

// ranksByTheirWords does what P1201 says of Ranks, word by word.
func ranksByTheirWords(r repo.Repo) []int {
	var ranks []int
	for _, p := range r {
		n := 0
		for _, q := range r {
			if q.Name != p.Name {
				continue
			}
			if weight.Compare(q.Weight, p.Weight) == 1 {
				n++
			}
			if weight.Same(q.Weight, p.Weight) && ver.Compare(q.Ver, p.Ver) == 1 {
				n++
			}
		}
		ranks = append(ranks, n)
	}
	return ranks
}

// drawn returns what sample.Drawn draws, with weights.
func drawn(random *rand.Rand) (repo.Repo, lock.Lock, []ask.Ask) {
	r, k, l := sample.Drawn(random.Intn)
	weights := []float64{0, 0, math.Copysign(0, -1), 1, -1, math.Inf(1), math.Inf(-1), 0.5}
	for i := range r {
		r[i].Weight = weights[random.Intn(len(weights))]
	}
	return r, k, l
}

func TestP1201RanksByTheirWords(t *testing.T) {
	random := rand.New(rand.NewSource(1201))
	turned := 0
	for range 5000 {
		r, _, _ := drawn(random)
		want := ranksByTheirWords(r)
		holdRanks(t, r, want...)
		for i := range r {
			if i > 0 && r[i-1].Name == r[i].Name && want[i-1] < want[i] {
				turned++ // the weights, not the versions, decided
			}
		}
	}
	if turned < 500 {
		t.Errorf("only %d times did a weight decide", turned)
	}
}

func TestP1201RanksOfANameAreAllDifferent(t *testing.T) {
	random := rand.New(rand.NewSource(12))
	for range 1000 {
		r, _, _ := drawn(random)
		ranks := cost.Ranks(r)
		for _, name := range repo.Names(r) {
			var l []int
			for _, number := range repo.Named(r, name) {
				l = append(l, ranks[number])
			}
			slices.Sort(l)
			for i, rank := range l {
				if i != rank {
					t.Fatalf("the ranks of %s are %v", name, l)
				}
			}
		}
	}
}

func TestP1201Compare(t *testing.T) {
	for _, c := range []struct {
		a, b []int
		want int
	}{
		{nil, nil, 0},
		{nil, []int{}, 0},
		{nil, []int{0}, -1},
		{nil, []int{-1}, -1},
		{[]int{math.MinInt}, []int{}, 1},
		{[]int{0}, []int{0}, 0},
		{[]int{0}, []int{1}, -1},
		{[]int{1, 2, 3}, []int{1, 2, 3}, 0},
		{[]int{1, 2, 3}, []int{1, 2, 4}, -1},
		{[]int{1, 3, 0}, []int{1, 2, 9}, 1},
		{[]int{0, 9, 9, 9}, []int{1}, -1},
		{[]int{1, 2}, []int{1, 2, -9}, -1},
		{[]int{1, 2, 0}, []int{1, 2}, 1},
		{[]int{2}, []int{1, 9}, 1},
		{[]int{9}, []int{10}, -1},
		{[]int{-1}, []int{0}, -1},
		{[]int{-2}, []int{-1}, -1},
		{[]int{math.MinInt}, []int{math.MaxInt}, -1},
		{[]int{math.MinInt}, []int{1}, -1},
		{[]int{-2}, []int{math.MaxInt}, -1},
		{[]int{0, 1 << 32}, []int{0, 0}, 1},
	} {
		if got := cost.Compare(c.a, c.b); got != c.want {
			t.Errorf("Compare(%v, %v): %d; want %d", c.a, c.b, got, c.want)
		}
		if got := cost.Compare(c.b, c.a); got != -c.want {
			t.Errorf("Compare(%v, %v): %d; want %d", c.b, c.a, got, -c.want)
		}
	}
}

// TestP1201CompareIsAnOrder goes through all lists of at most three of the
// numbers -1, 0 and 1, which are made in their order.
func TestP1201CompareIsAnOrder(t *testing.T) {
	var l [][]int
	var extend func(beginning []int)
	extend = func(beginning []int) {
		l = append(l, beginning)
		for n := -1; n <= 1 && len(beginning) < 3; n++ {
			extend(append(slices.Clone(beginning), n))
		}
	}
	extend(nil)
	for i, a := range l {
		for k, b := range l {
			if got, want := cost.Compare(a, b), min(1, max(-1, i-k)); got != want {
				t.Errorf("Compare(%v, %v): %d; want %d", a, b, got, want)
			}
		}
	}
}
