package rng_test

import (
	"slices"
	"testing"

	"manciple/api"
	"manciple/rng"
	"manciple/ver"
)

// bounds stand in ascending order.
var bounds = []string{"0~1", "0", "0-1", "0.0"}

// A model is the set of the points of a range, one bit each: bounds[i] is
// point 2i+1, and the even points are the versions below, between and above.
type model uint

func points(n int) int { return 2*n + 1 }

// every returns all models over the first n bounds.
func every(n int) []model {
	var all []model
	for m := range model(1) << points(n) {
		all = append(all, m)
	}
	return all
}

func (m model) has(point int) bool { return m>>point&1 == 1 }

// ends returns the point after the last one of the run that begins at point.
func (m model) ends(point, n int) int {
	for point < points(n) && m.has(point) {
		point++
	}
	return point
}

// form writes the model as a range, one Span for each run of its points.
func (m model) form(n int) rng.Range {
	var r rng.Range
	for at := 0; at < points(n); at++ {
		if end := m.ends(at, n); end > at {
			r = append(r, run(at, end-1, n))
			at = end
		}
	}
	return r
}

// run returns the Span from one point to another.
func run(first, last, n int) rng.Span {
	var s rng.Span
	switch {
	case first%2 == 1:
		s.Lo, s.LoIn = bounds[first/2], true
	case first > 0:
		s.Lo = bounds[first/2-1]
	}
	switch {
	case last%2 == 1:
		s.Hi, s.HiIn = bounds[last/2], true
	case last < points(n)-1:
		s.Hi = bounds[last/2]
	}
	return s
}

// shape is a Span and the model of its points.
type shape struct {
	span rng.Span
	is   model
}

// shapes returns every Span that holds a point, over the first n bounds.
func shapes(n int) []shape {
	var all []shape
	for first := range points(n) {
		var is model
		for last := first; last < points(n); last++ {
			is |= 1 << last
			all = append(all, shape{run(first, last, n), is})
		}
	}
	return all
}

// places returns a version for every point over the first n bounds.
func places(n int) []string {
	return append([]string{"0~~1", "0~1", "0~2", "0", "0-0.1", "0-1", "0a0", "0.0"}[:points(n)-1], "1:0")
}

func TestModelIsOfVersionsInOrder(t *testing.T) {
	for n := range len(bounds) + 1 {
		l := places(n)
		if len(l) != points(n) {
			t.Fatalf("%d versions for %d points", len(l), points(n))
		}
		for i, v := range l {
			if ver.Check(v) != api.OK || i > 0 && ver.Compare(l[i-1], v) != -1 {
				t.Errorf("%q does not stand where the model has it", v)
			}
			if i%2 == 1 && v != bounds[i/2] {
				t.Errorf("%q is not the bound %q", v, bounds[i/2])
			}
		}
	}
}

// holdForm tells whether r is written as the model's form is.
func holdForm(t *testing.T, what string, r rng.Range, m model, n int) {
	t.Helper()
	if want := m.form(n); !slices.Equal(r, want) {
		t.Fatalf("%s: %v; want %v", what, r, want)
	}
}

func TestP301CheckAcceptsEveryForm(t *testing.T) {
	for _, m := range every(4) {
		if err := rng.Check(m.form(4)); err != api.OK {
			t.Fatalf("Check(%v): %v", m.form(4), err)
		}
	}
}

func TestP301HasEveryPoint(t *testing.T) {
	for _, m := range every(4) {
		for point, v := range places(4) {
			if rng.Has(m.form(4), v) != m.has(point) {
				t.Fatalf("Has(%v, %q): %v", m.form(4), v, !m.has(point))
			}
		}
	}
}

func TestP301NormOfEveryTwo(t *testing.T) {
	for _, a := range shapes(4) {
		for _, b := range shapes(4) {
			l := []rng.Span{a.span, b.span}
			r, err := rng.Norm(l)
			if err != api.OK {
				t.Fatalf("Norm(%v): %v", l, err)
			}
			holdForm(t, "Norm", r, a.is|b.is, 4)
		}
	}
}

func TestP301NormOfEveryThree(t *testing.T) {
	for _, a := range shapes(2) {
		for _, b := range shapes(2) {
			for _, c := range shapes(2) {
				r, err := rng.Norm([]rng.Span{a.span, b.span, c.span})
				if err != api.OK {
					t.Fatal(err)
				}
				holdForm(t, "Norm", r, a.is|b.is|c.is, 2)
			}
		}
	}
}

func TestP302NotOfEvery(t *testing.T) {
	for _, m := range every(4) {
		holdForm(t, "Not", rng.Not(m.form(4)), ^m&(1<<points(4)-1), 4)
	}
}

func TestP302AndOrOfEveryTwo(t *testing.T) {
	for _, a := range every(3) {
		for _, b := range every(3) {
			holdForm(t, "And", rng.And(a.form(3), b.form(3)), a&b, 3)
			holdForm(t, "Or", rng.Or(a.form(3), b.form(3)), a|b, 3)
		}
	}
}
