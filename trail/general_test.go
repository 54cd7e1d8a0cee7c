package trail_test

import (
	"math"
	"math/rand"
	"slices"
	"testing"

	"manciple/api"
	"manciple/cnf"
	"manciple/sample"
	"manciple/trail"
)

func extremes() []int {
	return []int{math.MinInt, math.MinInt + 1, -1 << 32, -257, -3, -2, -1, 0, 1, 2, 3, 257, 1 << 32, math.MaxInt - 1, math.MaxInt}
}

// TestP1 gives the functions all that they can be given, fitting or not.
func TestP1(t *testing.T) {
	for _, n := range append(extremes(), 4, api.MaxVars) {
		x, err := trail.New(n)
		if err != api.OK {
			continue
		}
		for _, lit := range extremes() {
			for _, reason := range extremes() {
				x.Imply(lit, reason)
				x.Decide(lit)
				x.Back(reason)
				told(x, 3)
				told(x.Twin(), 3)
			}
			x.Value(lit)
			x.Level(lit)
			x.Reason(lit)
		}
	}
	var clauses []cnf.Clause
	for _, lit := range extremes() {
		clauses = append(clauses, cnf.Clause{lit}, cnf.Clause{lit, 2}, slices.Repeat(cnf.Clause{lit}, 1000))
	}
	x := made(t, 3)
	for _, a := range []ask{imply(2, 0), decide(1), imply(-3, math.MaxInt)} {
		holdErr(t, x, a, api.OK)
		for i := range clauses {
			trail.Sound(x, clauses[i:])
		}
		trail.Sound(x, make([]cnf.Clause, api.MaxClauses+1))
	}
}

// TestP1OfTheZeroValue: what New has not made is a trail for no variables.
func TestP1OfTheZeroValue(t *testing.T) {
	var x trail.Trail
	for _, y := range []*trail.Trail{&x, x.Twin()} {
		holdErr(t, y, decide(1), api.ErrLit)
		holdErr(t, y, imply(-1, 0), api.ErrLit)
		holdErr(t, y, back(0), api.OK)
		holdErr(t, y, back(1), api.ErrArg)
		holdSound(t, y, nil, true)
		if got, want := told(y, 3), told(made(t, 0), 3); got != want {
			t.Errorf("the zero value: %s; want %s", got, want)
		}
	}
}

// TestP2Sound: the clauses stay as they are, and so does the trail.
func TestP2Sound(t *testing.T) {
	random := rand.New(rand.NewSource(1703))
	for range 500 {
		n, drawn := sample.DrawnClauses(random.Intn)
		x := drawnTrail(t, random, n, drawn)
		seen, want := told(x, n), soundByItsWords(x, drawn)
		l := sample.SpacedClauses(drawn)
		before := sample.StretchedClauses(l)
		holdSound(t, x, l, want)
		if !cnf.Same(sample.StretchedClauses(l), before) {
			t.Fatalf("Sound(%s, %s) changed the clauses", seen, shown(drawn))
		}
		if told(x, n) != seen {
			t.Fatalf("Sound(%s, %s) changed the trail", seen, shown(drawn))
		}
	}
}

// TestP2Lits: what is answered is new memory.
func TestP2Lits(t *testing.T) {
	for _, asks := range [][]ask{nil, {imply(-2, 7)}, {decide(3), imply(1, 0), decide(4)}, {decide(3), imply(1, 0), decide(4), back(1)}} {
		x := after(t, 4, asks...)
		seen := told(x, 4)
		first, second := x.Lits(), x.Lits()
		want := slices.Clone(first)
		sample.Spill(second, 99)
		if !slices.Equal(first, want) {
			t.Errorf("after %v two answers of Lits have memory in common", asks)
		}
		if told(x, 4) != seen {
			t.Errorf("after %v Lits hands out what the trail keeps", asks)
		}
		// nor does it come back by what is done later
		third := x.Lits()
		_ = append(third, 99)
		x.Decide(-2)
		if !slices.Equal(third, want) {
			t.Errorf("after %v what Lits answered changed to %v", asks, third)
		}
	}
}

func TestP2NilIsEmpty(t *testing.T) {
	x := after(t, 2, decide(1))
	holdSound(t, x, nil, true)
	holdSound(t, x, []cnf.Clause{}, true)
	holdErr(t, x, imply(2, 0), api.OK)
	holdSound(t, x, nil, false)
	holdSound(t, x, []cnf.Clause{}, false)
	holdSound(t, x, []cnf.Clause{nil}, false)
	holdSound(t, x, []cnf.Clause{{}}, false)
}

// TestP3: the same calls once more lead to the same.
func TestP3(t *testing.T) {
	random := rand.New(rand.NewSource(1704))
	for range 300 {
		n := random.Intn(9)
		x, y := made(t, n), made(t, n)
		l := sample.Clauses(2, 2)
		for range random.Intn(40) {
			a := drawnAsk(random, n, x.Deep())
			if first, second := a.of(x), a.of(y); first != second {
				t.Fatalf("%s: %v: %v, then %v", told(x, n), a, first, second)
			}
			if first, second := trail.Sound(x, l), trail.Sound(y, l); first != second {
				t.Fatalf("%s: Sound: %v, then %v", told(x, n), first, second)
			}
		}
		first := told(x, n)
		if told(x, n) != first || told(y, n) != first {
			t.Fatalf("%s, then %s and %s", first, told(x, n), told(y, n))
		}
	}
}

// TestP5: a call that returns an error changes nothing, not even what later
// calls do.
func TestP5(t *testing.T) {
	wrong := []ask{decide(0), decide(9), imply(-9, 0), imply(4, -1), decide(1), imply(-1, 0), back(-1), back(3), back(9)}
	fine := []ask{imply(1, 3), decide(-2), imply(3, 0), back(1), decide(4), back(1), imply(-4, 2)}
	plain, disturbed := made(t, 4), made(t, 4)
	for i, a := range fine {
		holdErr(t, plain, a, api.OK)
		holdErr(t, disturbed, a, api.OK)
		for _, b := range wrong {
			if err := b.of(disturbed); err == api.OK {
				t.Fatalf("%v after %v: %v", b, fine[:i+1], err)
			}
		}
		if got, want := told(disturbed, 4), told(plain, 4); got != want {
			t.Fatalf("after %v and errors: %s; want %s", fine[:i+1], got, want)
		}
	}
}

// TestP7New: two trails have nothing in common.
func TestP7New(t *testing.T) {
	x, y := made(t, 4), made(t, 4)
	empty := told(y, 4)
	for _, a := range []ask{imply(1, 0), decide(-2), imply(3, 1), decide(4)} {
		holdErr(t, x, a, api.OK)
		if got := told(y, 4); got != empty {
			t.Fatalf("%v of another trail: %s; want %s", a, got, empty)
		}
	}
}

// holdApart does the calls to x and tells whether y stays as it is.
func holdApart(t *testing.T, x, y *trail.Trail, n int, asks []ask) {
	t.Helper()
	want := told(y, n)
	for _, a := range asks {
		a.of(x)
		if got := told(y, n); got != want {
			t.Fatalf("%v of its twin: %s; want %s", a, got, want)
		}
	}
}

// TestP10Twin: it is equal, and what is done to one of the two does not change
// the other.
func TestP10Twin(t *testing.T) {
	random := rand.New(rand.NewSource(1705))
	for range 2000 {
		n := random.Intn(9)
		x := made(t, n)
		for range random.Intn(20) {
			drawnAsk(random, n, x.Deep()).of(x)
		}
		before := told(x, n)
		y := x.Twin()
		if y == nil || y == x {
			t.Fatalf("%s: Twin: %p of %p", before, y, x)
		}
		if told(x, n) != before || told(y, n) != before {
			t.Fatalf("%s: Twin: %s of %s", before, told(y, n), told(x, n))
		}
		var first, second []ask
		for range random.Intn(10) {
			first = append(first, drawnAsk(random, n, x.Deep()))
			second = append(second, drawnAsk(random, n, x.Deep()))
		}
		holdApart(t, x, y, n, first)
		holdApart(t, y, x, n, second)
		holdApart(t, x, y, n, first)
	}
}

// TestP10TwinGoesOn: the same calls lead both to the same, also with what was
// removed before, and a twin of a twin.
func TestP10TwinGoesOn(t *testing.T) {
	start := []ask{imply(1, 4), decide(-2), imply(3, 0), decide(4), back(1)}
	later := []ask{decide(5), imply(-4, 1), decide(6), back(2), imply(-6, 2), back(0), decide(2)}
	x := after(t, 6, start...)
	twins := []*trail.Trail{x.Twin(), x.Twin().Twin()}
	for _, a := range later {
		holdErr(t, x, a, api.OK)
	}
	for _, y := range twins {
		for _, a := range later {
			holdErr(t, y, a, api.OK)
		}
		if got, want := told(y, 6), told(x, 6); got != want {
			t.Errorf("a twin after the same calls: %s; want %s", got, want)
		}
	}
	// two twins that go on from the same place write to different memory
	y, z := x.Twin(), x.Twin()
	holdErr(t, y, decide(3), api.OK)
	holdErr(t, z, decide(-5), api.OK)
	holdErr(t, x, imply(-4, 9), api.OK)
	holdLits(t, y, 2, 1, 2, 3)
	holdLits(t, z, 2, 1, 2, -5)
	holdLits(t, x, 1, 1, 2, -4)
}
