package cnf_test

import (
	"math"
	"slices"
	"strings"
	"testing"

	"manciple/api"
	"manciple/cnf"
	"manciple/sample"
)

var extremes = []int{0, 1, -1, 2, -2, 256, -256, 257, -257, math.MaxInt, -math.MaxInt, math.MinInt}

// TestP1AnyLiterals calls every function with what it need not accept (P8), too.
func TestP1AnyLiterals(t *testing.T) {
	for _, x := range extremes {
		for _, y := range extremes {
			c := cnf.Clause{x, y, x}
			l := []cnf.Clause{c, nil, {y}}
			cnf.Norm(c)
			for _, m := range [][]bool{nil, {true}, make([]bool, 256), make([]bool, 1000)} {
				holdHolds(t, c, m, holdsByItsWords(c, m))
				holdFirst(t, l, m, firstByItsWords(l, m))
			}
			for _, n := range extremes {
				holdCheck(t, n, c, checkByItsWords(n, c))
				index, err := checkAllByItsWords(n, l)
				holdCheckAll(t, n, l, index, err)
				cnf.Text(n, l)
			}
			if !cnf.Same(l, sample.SpacedClauses(l)) || cnf.Same(l, []cnf.Clause{c, nil, {y, 0}}) {
				t.Errorf("Same of %v", l)
			}
		}
	}
}

func TestP1ListsBeyondTheLimits(t *testing.T) {
	l := slices.Repeat([]cnf.Clause{{math.MinInt}, nil, make(cnf.Clause, 300)}, api.MaxClauses/2)
	cnf.Text(-1, l)
	cnf.First(l, nil)
	cnf.Norm(make(cnf.Clause, 1<<20))
	cnf.Holds(make(cnf.Clause, 1<<20), make([]bool, 1<<20))
	holdCheckAll(t, 3, l, 0, api.ErrLong)
}

func TestP1AnyTexts(t *testing.T) {
	pieces := []string{
		"", "\n", " ", "cnf", "cnf 1 1\n", "cnf 2 2\n1 0\n", "0\n", "1 -1 ", "-", "\x00", "\xff\n", "é 0\n",
		strings.Repeat("1 ", 256), strings.Repeat("0\n", 1<<16), strings.Repeat("9", 1<<17),
	}
	for _, a := range pieces {
		for _, b := range pieces {
			for _, c := range pieces {
				holdParseByItsWords(t, a+b+c)
			}
		}
	}
}

func TestP2ArgumentsStayAsTheyAre(t *testing.T) {
	for _, given := range [][]cnf.Clause{
		nil, {nil}, {{1}}, {{3, -1, 2}, {}, {5, 5, -2, 5, -2}, {2, 7, -2, 1}}, {{0, 9}, {math.MinInt, 4, math.MinInt}}, slices.Repeat([]cnf.Clause{{3, 2, 1, 3}}, 100),
	} {
		l := sample.SpacedClauses(given)
		before := sample.StretchedClauses(l)
		m := append([]bool{true, false, true}, true, true)[:3]
		for _, c := range l {
			cnf.Check(9, c)
			cnf.Norm(c)
			cnf.Holds(c, m)
		}
		cnf.CheckAll(9, l)
		cnf.First(l, m)
		cnf.Text(9, l)
		cnf.Same(l, given)
		cnf.Same(given, l)
		if after := sample.StretchedClauses(l); !cnf.Same(after, before) {
			t.Errorf("%s is now %s", shown(before), shown(after))
		}
		if !slices.Equal(m[:5], []bool{true, false, true, true, true}) {
			t.Errorf("the model is now %v", m[:5])
		}
	}
}

func TestP2NormReturnsNewMemory(t *testing.T) {
	for _, c := range []cnf.Clause{{}, {1}, {1, -2, 3}, {3, 1}, {4, 4, 4, 4}, {1, -1}, {1, 1, -2, -2, 3}} {
		given := sample.SpacedClauses([]cnf.Clause{c})
		before := sample.StretchedClauses(given)
		one, _ := cnf.Norm(given[0])
		other, _ := cnf.Norm(given[0])
		want := slices.Clone(other)
		sample.Spill(one, -9)
		if !slices.Equal(other, want) {
			t.Errorf("Norm(%v): two results share memory", c)
		}
		if after := sample.StretchedClauses(given); !cnf.Same(after, before) {
			t.Errorf("Norm(%v): the result lies in the argument", before)
		}
	}
}

func TestP2ParseReturnsNewMemory(t *testing.T) {
	s := "cnf 9 6\n1 2 3 0\n0\n-1 0\n4 -5 0\n1 2 3 0\n6 7 8 9 1 0\n"
	want := []cnf.Clause{{1, 2, 3}, {}, {-1}, {4, -5}, {1, 2, 3}, {6, 7, 8, 9, 1}}
	_, l, _, _ := cnf.Parse(s)
	_, other, _, _ := cnf.Parse(s)
	for i := range l {
		sample.Spill(l[i], -9)
		if !cnf.Same(l[i+1:], want[i+1:]) {
			t.Fatalf("Parse: clause %d shares memory with another one", i)
		}
	}
	sample.Spill(l, cnf.Clause{-9})
	if !cnf.Same(other, want) {
		t.Error("Parse: two results share memory")
	}
	holdParse(t, s, 9, want)
}

func TestP2NilIsAsEmpty(t *testing.T) {
	holdNorm(t, nil, cnf.Clause{}, true)
	holdNorm(t, cnf.Clause{}, nil, true)
	holdCheck(t, 0, cnf.Clause{}, api.OK)
	holdText(t, 3, []cnf.Clause{}, cnf.Text(3, nil))
	holdText(t, 3, []cnf.Clause{{}, nil}, cnf.Text(3, []cnf.Clause{nil, {}}))
	holdHolds(t, cnf.Clause{}, []bool{}, cnf.Holds(nil, nil))
	holdFirst(t, []cnf.Clause{{}}, []bool{}, cnf.First([]cnf.Clause{nil}, nil))
}

func TestP3SameCallsSameResults(t *testing.T) {
	l := []cnf.Clause{{5, 5, -2, 5, -2}, {2, 7, -2, 1}, {}}
	text := textByItsWords(9, l)
	for range 5 {
		holdCheck(t, 1, l[0], api.ErrLit)
		holdCheckAll(t, 6, l, 1, api.ErrLit)
		holdParseError(t, "cnf 1 2\n0\n2 0\n", 2, api.ErrLit)
		holdCheck(t, 9, l[0], api.OK)
		holdCheckAll(t, 9, l, 0, api.OK)
		holdNorm(t, l[0], cnf.Clause{-2, 5}, true)
		holdNorm(t, l[1], nil, false)
		holdText(t, 9, l, text)
	}
}
