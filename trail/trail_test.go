package trail_test

import (
	"fmt"
	"math"
	"testing"

	"manciple/api"
	"manciple/trail"
)

func shown(x any) string { return fmt.Sprintf("%.400s", fmt.Sprint(x)) }

// made returns an empty trail for the variables 1 to n.
func made(t *testing.T, n int) *trail.Trail {
	t.Helper()
	x, err := trail.New(n)
	if x == nil || err != api.OK {
		t.Fatalf("New(%d): %v, %v; want a trail", n, x, err)
	}
	return x
}

// ask is one call that may change a trail.
type ask struct {
	what      string
	x, reason int
}

func decide(lit int) ask        { return ask{what: "decide", x: lit} }
func imply(lit, reason int) ask { return ask{what: "imply", x: lit, reason: reason} }
func back(level int) ask        { return ask{what: "back", x: level} }

// doer is what a trail and its second telling have in common.
type doer interface {
	Decide(lit int) api.Errno
	Imply(lit, reason int) api.Errno
	Back(level int) api.Errno
}

func (a ask) of(d doer) api.Errno {
	switch a.what {
	case "decide":
		return d.Decide(a.x)
	case "imply":
		return d.Imply(a.x, a.reason)
	}
	return d.Back(a.x)
}

// after returns the trail for n variables of these calls, which must be fine.
func after(t *testing.T, n int, asks ...ask) *trail.Trail {
	t.Helper()
	x := made(t, n)
	for i, a := range asks {
		if err := a.of(x); err != api.OK {
			t.Fatalf("%d variables, %v: call %d: %v", n, asks, i, err)
		}
	}
	return x
}

// seen is all that can be observed of a trail.
type seen interface {
	Value(lit int) int
	Level(v int) int
	Reason(v int) int
	Lits() []int
	Deep() int
}

// told writes down what is to be seen of a trail for n variables, also beyond.
func told(x seen, n int) string {
	s := fmt.Sprint(append([]int{}, x.Lits()...), " deep ", x.Deep())
	for v := -n - 2; v <= n+2; v++ {
		s += fmt.Sprintf(", %d: %d %d %d", v, x.Value(v), x.Level(v), x.Reason(v))
	}
	return s
}

func holdErr(t *testing.T, x *trail.Trail, a ask, want api.Errno) {
	t.Helper()
	before := x.Lits()
	if err := a.of(x); err != want {
		t.Errorf("after %s, deep %d: %v: %v; want %v", shown(before), x.Deep(), a, err, want)
	}
}

func holdLits(t *testing.T, x *trail.Trail, deep int, want ...int) {
	t.Helper()
	if got := x.Lits(); fmt.Sprint(append([]int{}, got...)) != fmt.Sprint(append([]int{}, want...)) || x.Deep() != deep {
		t.Errorf("Lits, Deep: %v, %d; want %v, %d", got, x.Deep(), want, deep)
	}
}

func holdVariable(t *testing.T, x *trail.Trail, v, value, level, reason int) {
	t.Helper()
	if a, b, c, d := x.Value(v), x.Value(-v), x.Level(v), x.Reason(v); a != value || b != -value || c != level || d != reason {
		t.Errorf("variable %d: values %d and %d, level %d, reason %d; want %d and %d, %d, %d", v, a, b, c, d, value, -value, level, reason)
	}
}

func TestP1701Example(t *testing.T) {
	x := after(t, 4, imply(-2, 7), decide(4), imply(-1, 0), decide(3))
	holdLits(t, x, 2, -2, 4, -1, 3)
	holdVariable(t, x, 2, -1, 0, 7)
	holdVariable(t, x, 4, 1, 1, -1)
	holdVariable(t, x, 1, -1, 1, 0)
	holdVariable(t, x, 3, 1, 2, -1)
	holdErr(t, x, back(1), api.OK)
	holdLits(t, x, 1, -2, 4, -1)
	holdVariable(t, x, 2, -1, 0, 7)
	holdVariable(t, x, 4, 1, 1, -1)
	holdVariable(t, x, 1, -1, 1, 0)
	holdVariable(t, x, 3, 0, -1, -1)
}

func TestP1701New(t *testing.T) {
	for n := range api.MaxVars + 1 {
		x := made(t, n)
		holdLits(t, x, 0)
		for v := range n + 2 {
			holdVariable(t, x, v, 0, -1, -1)
		}
		// the variables are 1 to n
		holdErr(t, x, decide(n+1), api.ErrLit)
		holdErr(t, x, imply(-n-1, 0), api.ErrLit)
		if n > 0 {
			holdErr(t, x, imply(-n, 0), api.OK)
		}
		if n > 1 {
			holdErr(t, x, decide(1), api.OK)
		}
	}
	for _, n := range []int{-1, -2, -api.MaxVars, api.MaxVars + 1, 2 * api.MaxVars, 1 << 32, math.MinInt, math.MaxInt} {
		if x, err := trail.New(n); x != nil || err != api.ErrArg {
			t.Errorf("New(%d): %v, %v; want nil, %v", n, x, err, api.ErrArg)
		}
	}
}

// beyond returns numbers that are no literals of the variables 1 to n.
func beyond(n int) []int {
	return []int{0, n + 1, -n - 1, n + 2, 1 << 8, -1 << 8, 257, -257, 1 << 32, 1<<32 + 1, -1<<32 - 1, math.MaxInt, -math.MaxInt, math.MinInt, math.MinInt + 1}
}

func TestP1701DecideAndImplyOfNoLiteral(t *testing.T) {
	for n := range 5 {
		x := made(t, n)
		for range 3 {
			for _, lit := range beyond(n) {
				holdErr(t, x, decide(lit), api.ErrLit)
				// ahead of what is wrong with the reason
				for _, reason := range []int{0, 3, -1, math.MinInt, math.MaxInt} {
					holdErr(t, x, imply(lit, reason), api.ErrLit)
				}
			}
			if lits := len(x.Lits()); lits < n {
				holdErr(t, x, decide(lits+1), api.OK)
			}
		}
	}
}

func TestP1701DecideAndImplyOfTheSameVariable(t *testing.T) {
	for _, first := range []ask{decide(2), decide(-2), imply(2, 0), imply(-2, 5)} {
		for _, then := range [][]ask{nil, {decide(1)}, {imply(-3, 2)}, {decide(1), decide(3)}, {decide(1), back(0), decide(3)}} {
			x := after(t, 3, decide(-1), back(0))
			holdErr(t, x, first, api.OK)
			level := x.Deep()
			for _, a := range then {
				if a == back(0) {
					a = back(level)
				}
				holdErr(t, x, a, api.OK)
			}
			for _, lit := range []int{2, -2} {
				holdErr(t, x, decide(lit), api.ErrTwice)
				// ahead of what is wrong with the reason
				for _, reason := range []int{0, 5, -1, math.MinInt} {
					holdErr(t, x, imply(lit, reason), api.ErrTwice)
				}
			}
		}
	}
	// after it is removed it may come again
	x := after(t, 3, decide(2), back(0), decide(-2), back(0), imply(2, 9))
	holdVariable(t, x, 2, 1, 0, 9)
	x = after(t, 3, decide(1), imply(3, 4), back(0), decide(-3))
	holdVariable(t, x, 3, -1, 1, -1)
	holdVariable(t, x, 1, 0, -1, -1)
}

func TestP1701ImplyOfReasons(t *testing.T) {
	x := made(t, 4)
	for _, reason := range []int{-1, -2, -1 << 32, math.MinInt, -math.MaxInt} {
		holdErr(t, x, imply(2, reason), api.ErrArg)
		holdErr(t, x, imply(-4, reason), api.ErrArg)
	}
	holdLits(t, x, 0)
	for i, reason := range []int{0, 1, 1 << 32, math.MaxInt} {
		holdErr(t, x, imply(i+1, reason), api.OK)
		holdVariable(t, x, i+1, 1, 0, reason)
	}
	// two literals may have the same reason
	x = after(t, 2, imply(1, 3), imply(-2, 3))
	holdVariable(t, x, 2, -1, 0, 3)
}

func TestP1701Levels(t *testing.T) {
	x := after(t, 9, imply(1, 0), imply(2, 1), decide(3), decide(-4), imply(5, 2), imply(-6, 3), decide(7), imply(8, 4))
	holdLits(t, x, 3, 1, 2, 3, -4, 5, -6, 7, 8)
	for v, level := range []int{-1, 0, 0, 1, 2, 2, 2, 3, 3, -1} {
		if got := x.Level(v); got != level {
			t.Errorf("Level(%d): %d; want %d", v, got, level)
		}
	}
	for v, reason := range []int{-1, 0, 1, -1, -1, 2, 3, -1, 4, -1} {
		if got := x.Reason(v); got != reason {
			t.Errorf("Reason(%d): %d; want %d", v, got, reason)
		}
	}
	// the level of a negation, and of what there is not
	for _, v := range append(beyond(9), -1, -4, -9) {
		if level, reason := x.Level(v), x.Reason(v); level != -1 || reason != -1 {
			t.Errorf("%d: level %d, reason %d; want -1, -1", v, level, reason)
		}
	}
}

func TestP1701ValueOfNoLiteral(t *testing.T) {
	for n := range 5 {
		x := made(t, n)
		for v := 1; v <= n; v++ {
			holdErr(t, x, decide(v), api.OK)
		}
		for _, lit := range beyond(n) {
			if got := x.Value(lit); got != 0 {
				t.Errorf("%d variables: Value(%d): %d; want 0", n, lit, got)
			}
		}
	}
}

func TestP1701Back(t *testing.T) {
	start := []ask{imply(1, 0), decide(3), decide(-4), imply(5, 2), decide(7), imply(8, 4), imply(-2, 5)}
	for level, want := range [][]int{{1}, {1, 3}, {1, 3, -4, 5}, {1, 3, -4, 5, 7, 8, -2}} {
		x := after(t, 8, append(start, back(level))...)
		holdLits(t, x, level, want...)
		there := map[int]bool{}
		for _, lit := range want {
			there[max(lit, -lit)] = true
		}
		whole := after(t, 8, start...)
		for v := range 9 {
			if there[v] {
				holdVariable(t, x, v, whole.Value(v), whole.Level(v), whole.Reason(v))
			} else {
				holdVariable(t, x, v, 0, -1, -1)
			}
		}
		// again it removes nothing, and what is above is there no more
		holdErr(t, x, back(level), api.OK)
		holdLits(t, x, level, want...)
		holdErr(t, x, back(level+1), api.ErrArg)
		// the next decision begins the level above
		holdErr(t, x, decide(6), api.OK)
		holdLits(t, x, level+1, append(want, 6)...)
		holdVariable(t, x, 6, 1, level+1, -1)
		// what is implied belongs to the last level
		holdErr(t, x, back(level), api.OK)
		holdErr(t, x, imply(-6, 2), api.OK)
		holdLits(t, x, level, append(want, -6)...)
		holdVariable(t, x, 6, -1, level, 2)
	}
}

func TestP1701BackToNoLevel(t *testing.T) {
	x := after(t, 4, imply(1, 0))
	for deep := range 4 {
		for _, level := range []int{-1, -2, deep + 1, deep + 2, 1 << 32, math.MaxInt, math.MinInt} {
			holdErr(t, x, back(level), api.ErrArg)
		}
		if deep < 3 {
			holdErr(t, x, decide(-deep-2), api.OK)
		}
	}
	holdLits(t, x, 3, 1, -2, -3, -4)
	x = made(t, 0)
	holdErr(t, x, back(0), api.OK)
	holdErr(t, x, back(1), api.ErrArg)
	holdErr(t, x, back(-1), api.ErrArg)
}

// TestP1701AllVariables: as many levels as there can be.
func TestP1701AllVariables(t *testing.T) {
	x := made(t, api.MaxVars)
	for v := api.MaxVars; v > 0; v-- {
		sign := 1 - 2*(v%2)
		holdErr(t, x, decide(sign*v), api.OK)
		holdVariable(t, x, v, sign, api.MaxVars-v+1, -1)
	}
	if x.Deep() != api.MaxVars || len(x.Lits()) != api.MaxVars {
		t.Errorf("Deep, Lits: %d, %d; want %d", x.Deep(), len(x.Lits()), api.MaxVars)
	}
	holdErr(t, x, back(100), api.OK)
	if lits := x.Lits(); x.Deep() != 100 || len(lits) != 100 || lits[99] != -(api.MaxVars-99) {
		t.Errorf("Deep, Lits: %d, %v", x.Deep(), lits)
	}
}
