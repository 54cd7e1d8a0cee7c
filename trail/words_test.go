package trail_test

import (
	"fmt"
	"math"
	"math/rand"
	"slices"
	"testing"

	"manciple/api"
	"manciple/trail"
)

// entry is a literal of words.
type entry struct {
	lit, level, reason int
	decided            bool
}

// words does what P1701 says, word by word, in the plainest way.
type words struct {
	n, deep int
	entries []entry
}

func (w *words) find(v int) int {
	return slices.IndexFunc(w.entries, func(e entry) bool { return e.lit == v || e.lit == -v })
}

func (w *words) wrong(lit int) api.Errno {
	isLiteral := false
	for v := 1; v <= w.n; v++ {
		isLiteral = isLiteral || lit == v || lit == -v
	}
	switch {
	case !isLiteral:
		return api.ErrLit
	case w.find(lit) >= 0:
		return api.ErrTwice
	}
	return api.OK
}

func (w *words) Decide(lit int) api.Errno {
	if err := w.wrong(lit); err != api.OK {
		return err
	}
	w.deep++
	w.entries = append(w.entries, entry{lit, w.deep, 0, true})
	return api.OK
}

func (w *words) Imply(lit, reason int) api.Errno {
	if err := w.wrong(lit); err != api.OK {
		return err
	}
	if reason < 0 {
		return api.ErrArg
	}
	w.entries = append(w.entries, entry{lit, w.deep, reason, false})
	return api.OK
}

func (w *words) Back(level int) api.Errno {
	if level < 0 || level > w.deep {
		return api.ErrArg
	}
	var kept []entry
	for _, e := range w.entries {
		if e.level <= level {
			kept = append(kept, e)
		}
	}
	w.entries, w.deep = kept, level
	return api.OK
}

func (w *words) Value(lit int) int {
	for _, e := range w.entries {
		if e.lit == lit {
			return 1
		}
		if e.lit == -lit {
			return -1
		}
	}
	return 0
}

func (w *words) Level(v int) int {
	if i := w.find(v); i >= 0 && v > 0 {
		return w.entries[i].level
	}
	return -1
}

func (w *words) Reason(v int) int {
	if i := w.find(v); i >= 0 && v > 0 && !w.entries[i].decided {
		return w.entries[i].reason
	}
	return -1
}

func (w *words) Lits() []int {
	var lits []int
	for _, e := range w.entries {
		lits = append(lits, e.lit)
	}
	return lits
}

func (w *words) Deep() int { return w.deep }

// holdBoth makes a call of both tellings and holds what they answer and what is
// to be seen of them afterwards against one another.
func holdBoth(t *testing.T, x *trail.Trail, w *words, a ask) api.Errno {
	t.Helper()
	before := told(x, w.n)
	got, want := a.of(x), a.of(w)
	if got != want {
		t.Fatalf("%s: %v: %v; want %v", before, a, got, want)
	}
	after := told(x, w.n)
	if expected := told(w, w.n); after != expected {
		t.Fatalf("%s: %v: %s; want %s", before, a, after, expected)
	}
	// a call that returns an error changes nothing (P5)
	if got != api.OK && after != before {
		t.Fatalf("%s: %v: %v, and then %s", before, a, got, after)
	}
	return got
}

// drawnAsk returns a call of which many are fine for n variables.
func drawnAsk(random *rand.Rand, n, deep int) ask {
	lit := (1 + random.Intn(n+1)) * (1 - 2*random.Intn(2))
	if random.Intn(40) == 0 {
		l := beyond(n)
		lit = l[random.Intn(len(l))]
	}
	switch random.Intn(8) {
	case 0:
		return back(random.Intn(deep+3) - 1)
	case 1, 2, 3:
		return decide(lit)
	}
	reason := random.Intn(12) - 1
	if random.Intn(20) == 0 {
		reason = []int{math.MaxInt, math.MinInt, 1 << 32, -1 << 32, -2}[random.Intn(5)]
	}
	return imply(lit, reason)
}

func TestP1701ByItsWords(t *testing.T) {
	random := rand.New(rand.NewSource(1701))
	count, deepest := map[string]int{}, 0
	for range 2000 {
		n := random.Intn(12)
		x, w := made(t, n), &words{n: n}
		for range random.Intn(60) {
			a := drawnAsk(random, n, w.deep)
			err := holdBoth(t, x, w, a)
			count[fmt.Sprint(a.what, " ", err)]++
			deepest = max(deepest, w.deep)
		}
	}
	for _, what := range []string{"decide", "imply", "back"} {
		for _, err := range []api.Errno{api.OK, api.ErrLit, api.ErrTwice, api.ErrArg} {
			if impossible := what == "decide" && err == api.ErrArg || what == "back" && err != api.OK && err != api.ErrArg; impossible {
				continue
			}
			if name := fmt.Sprint(what, " ", err); count[name] < 300 {
				t.Errorf("%s came up %d times only", name, count[name])
			}
		}
	}
	if deepest < 8 {
		t.Errorf("the deepest level is %d", deepest)
	}
}

// allAsks returns all calls for n variables and one reason, and some wrong ones.
func allAsks(n int) []ask {
	asks := []ask{decide(0), decide(n + 1), imply(-n-1, 0), imply(1, -1), back(-1)}
	for v := 1; v <= n; v++ {
		asks = append(asks, decide(v), decide(-v), imply(v, v), imply(-v, 0))
	}
	for level := range n + 2 {
		asks = append(asks, back(level))
	}
	return asks
}

// TestP1701OfAllCalls: all lists of calls of some length, each from the
// beginning.
func TestP1701OfAllCalls(t *testing.T) {
	for n, length := range []int{4, 4, 4, 3} {
		asks := allAsks(n)
		lists := [][]ask{nil}
		for range length {
			var longer [][]ask
			for _, l := range lists {
				for _, a := range asks {
					longer = append(longer, append(slices.Clone(l), a))
				}
			}
			lists = longer
		}
		for _, l := range lists {
			x, w := made(t, n), &words{n: n}
			for _, a := range l[:len(l)-1] {
				a.of(x)
				a.of(w)
			}
			holdBoth(t, x, w, l[len(l)-1])
		}
	}
}
