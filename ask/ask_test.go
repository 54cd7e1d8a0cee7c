package ask_test

import (
	"fmt"
	"math"
	"slices"
	"strconv"
	"strings"
	"testing"
	"unsafe"

	"manciple/api"
	"manciple/ask"
	"manciple/atom"
	"manciple/rng"
)

var (
	kinds    = []int{ask.Install, ask.Remove, ask.Upgrade, ask.Pin}
	noKinds  = []int{0, -1, 5, 6, -4, 256 + ask.Install, math.MaxInt, math.MinInt}
	longName = strings.Repeat("n", api.MaxName+1)
	longVer  = strings.Repeat("1", api.MaxVer+1)
)

// about returns the atom of a text.
func about(s string) atom.Atom {
	a, err := atom.Parse(s)
	if err != api.OK {
		panic(s + ": " + err.Error())
	}
	return a
}

func only(v string) rng.Span { return rng.Span{Lo: v, Hi: v, LoIn: true, HiIn: true} }

// versions returns a range of n versions.
func versions(n int) rng.Range {
	var r rng.Range
	for i := range n {
		r = append(r, only(strconv.Itoa(i)))
	}
	return r
}

// shown writes as much of a list as a message can bear.
func shown(l []ask.Ask) string { return fmt.Sprintf("%.400s", fmt.Sprintf("%+v", l)) }

func holdCheck(t *testing.T, a ask.Ask, want api.Errno) {
	t.Helper()
	if err := ask.Check(a); err != want {
		t.Errorf("Check(%+v): %v; want %v", a, err, want)
	}
}

func TestP901Kinds(t *testing.T) {
	if ask.Install != 1 || ask.Remove != 2 || ask.Upgrade != 3 || ask.Pin != 4 {
		t.Error("the kinds have other numbers")
	}
}

func TestP901CheckAccepts(t *testing.T) {
	for _, name := range []string{"a", "z-9", "install", "none", longName[1:]} {
		for _, kind := range kinds {
			holdCheck(t, ask.Ask{Kind: kind, Atom: about(name)}, api.OK)
			holdCheck(t, ask.Ask{Kind: kind, Atom: atom.Atom{Name: name, Range: rng.All()}}, api.OK)
		}
	}
}

func TestP901CheckOfRanges(t *testing.T) {
	for _, r := range []rng.Range{
		nil, {}, {only("1")}, {{Lo: "1"}}, {{Hi: "1"}}, {{Lo: "0~1", LoIn: true}}, {{Hi: "1", HiIn: true}}, {{Lo: "1", Hi: "2"}},
		{{Hi: "1"}, {Lo: "1"}}, {{Hi: "1", HiIn: true}, only("2"), {Lo: "3"}}, versions(16),
	} {
		a := atom.Atom{Name: "a", Range: r}
		holdCheck(t, ask.Ask{Kind: ask.Install, Atom: a}, api.OK)
		holdCheck(t, ask.Ask{Kind: ask.Pin, Atom: a}, api.OK)
		holdCheck(t, ask.Ask{Kind: ask.Remove, Atom: a}, api.ErrArg)
		holdCheck(t, ask.Ask{Kind: ask.Upgrade, Atom: a}, api.ErrArg)
	}
}

func TestP901CheckOfAtoms(t *testing.T) {
	for _, c := range []struct {
		a    atom.Atom
		want api.Errno
	}{
		{atom.Atom{}, api.ErrName},
		{atom.Atom{Range: rng.All()}, api.ErrName},
		{atom.Atom{Name: "A", Range: rng.All()}, api.ErrName},
		{atom.Atom{Name: "a b", Range: rng.All()}, api.ErrName},
		{atom.Atom{Name: "1"}, api.ErrName},
		{atom.Atom{Name: "a\n", Range: rng.All()}, api.ErrName},
		{atom.Atom{Name: longName}, api.ErrName},
		{atom.Atom{Name: "A", Range: rng.Range{{Lo: "x"}}}, api.ErrName},
		{atom.Atom{Name: "a", Range: rng.Range{{Lo: "x"}}}, api.ErrVer},
		{atom.Atom{Name: "a", Range: rng.Range{{Lo: "01"}}}, api.ErrVer},
		{atom.Atom{Name: "a", Range: rng.Range{{Lo: longVer}}}, api.ErrLong},
		{atom.Atom{Name: "a", Range: rng.Range{{HiIn: true}}}, api.ErrArg},
		{atom.Atom{Name: "a", Range: rng.Range{{Lo: "2", Hi: "1"}}}, api.ErrOrder},
		{atom.Atom{Name: "a", Range: rng.Range{{}, {}}}, api.ErrOrder},
		{atom.Atom{Name: "a", Range: rng.Range{only("2"), only("1")}}, api.ErrOrder},
		{atom.Atom{Name: "a", Range: versions(17)}, api.ErrLong},
		{atom.Atom{Name: "a", Range: versions(65)}, api.ErrLong},
	} {
		// whatever the kind, the atom comes ahead of a range that is not All
		for _, kind := range kinds {
			holdCheck(t, ask.Ask{Kind: kind, Atom: c.a}, c.want)
		}
	}
}

func TestP901CheckOfKinds(t *testing.T) {
	for _, kind := range noKinds {
		// the kind comes ahead of the atom
		for _, a := range []atom.Atom{about("a"), about("a (= 1)"), {}, {Name: "A"}, {Name: "a", Range: rng.Range{{Lo: "x"}}}, {Name: "a", Range: versions(17)}} {
			holdCheck(t, ask.Ask{Kind: kind, Atom: a}, api.ErrArg)
		}
	}
}

// checkByItsWords does what P901 says of Check, word by word.
func checkByItsWords(a ask.Ask) api.Errno {
	if a.Kind != 1 && a.Kind != 2 && a.Kind != 3 && a.Kind != 4 {
		return api.ErrArg
	}
	if err := atom.Check(a.Atom); err != api.OK {
		return err
	}
	if (a.Kind == 2 || a.Kind == 3) && (len(a.Atom.Range) != 1 || a.Atom.Range[0] != rng.Span{}) {
		return api.ErrArg
	}
	return api.OK
}

func TestP901Same(t *testing.T) {
	one := func(kind int, name string, r rng.Range) []ask.Ask {
		return []ask.Ask{{Kind: kind, Atom: atom.Atom{Name: name, Range: r}}}
	}
	a, b := one(1, "a", rng.All()), one(1, "b", rng.All())
	different := [][]ask.Ask{
		nil, a, b, one(2, "a", rng.All()), one(4, "a", rng.All()), one(1, "a", nil), one(1, "a", versions(1)), one(1, "a", versions(2)),
		one(0, "a", rng.All()), one(-1, "a", rng.All()), one(1, "A", rng.All()), one(1, "", nil), one(0, "", nil), one(1, "\xff", nil),
		one(1, "a", rng.Range{{Lo: "01"}}), one(1, "a", rng.Range{{Lo: "1"}}), one(1, "a", rng.Range{{}, {}}), one(1, "a", versions(100)),
		slices.Concat(a, b), slices.Concat(b, a), slices.Concat(a, a), slices.Concat(a, b, a), slices.Repeat(a, 32), slices.Repeat(a, 33),
		make([]ask.Ask, 2), make([]ask.Ask, 33),
	}
	for i, x := range different {
		for k, y := range different {
			if ask.Same(x, twin(y)) != (i == k) {
				t.Errorf("Same(%s, %s): %v", shown(x), shown(y), i != k)
			}
		}
	}
	if !ask.Same(nil, []ask.Ask{}) || !ask.Same([]ask.Ask{}, nil) || !ask.Same(nil, nil) {
		t.Error("Same: a nil list is not as an empty one")
	}
	if !ask.Same(one(1, "a", nil), one(1, "a", rng.Range{})) {
		t.Error("Same: a nil range is not as an empty one")
	}
}

// twin returns a copy that shares no list with l.
func twin(l []ask.Ask) []ask.Ask {
	l = slices.Clone(l)
	for i := range l {
		l[i].Atom.Range = slices.Clone(l[i].Atom.Range)
	}
	return l
}

// isIn tells whether v lies in the memory of s.
func isIn(v, s string) bool {
	first := func(s string) uintptr { return uintptr(unsafe.Pointer(unsafe.StringData(s))) }
	return v != "" && s != "" && first(v) < first(s)+uintptr(len(s)) && first(s) < first(v)+uintptr(len(v))
}

func TestP2ArgumentsStayAsTheyAre(t *testing.T) {
	for _, l := range [][]ask.Ask{
		nil, mixed(), {{Kind: ask.Remove, Atom: about("a (= 1)")}, {}}, make([]ask.Ask, 33),
		{{Kind: ask.Pin, Atom: atom.Atom{Name: "a", Range: rng.Range{only("2"), only("1")}}}},
	} {
		whole := append(slices.Clone(l), ask.Ask{Kind: 7, Atom: about("spare")}, ask.Ask{})
		for i := range whole {
			r := whole[i].Atom.Range
			whole[i].Atom.Range = append(slices.Clone(r), rng.Span{Lo: "spare"}, rng.Span{Hi: "spare"})[:len(r)]
		}
		all := func() []ask.Ask { // with what lies beyond the ends of the ranges
			l := slices.Clone(whole)
			for i, a := range l {
				l[i].Atom.Range = slices.Clone(a.Atom.Range[:cap(a.Atom.Range)])
			}
			return l
		}
		before := all()
		part := whole[:len(l)]
		ask.Text(part)
		ask.Same(part, before)
		ask.Same(before, part)
		for _, a := range part {
			ask.Check(a)
		}
		if !ask.Same(all(), before) {
			t.Errorf("%s is now %s", shown(before), shown(whole))
		}
	}
}

func TestP2ResultsAreNewMemory(t *testing.T) {
	l := mixed()
	s, _, err := ask.Text(l)
	if err != api.OK {
		t.Fatalf("Text: %v", err)
	}
	for _, a := range l {
		if isIn(s, a.Atom.Name) {
			t.Error("Text: the text lies in the list")
		}
	}
	first, _, _ := ask.Parse(s)
	again, _, _ := ask.Parse(s)
	for _, a := range first {
		if isIn(a.Atom.Name, s) || slices.ContainsFunc(a.Atom.Range, func(x rng.Span) bool { return isIn(x.Lo, s) || isIn(x.Hi, s) }) {
			t.Errorf("Parse: %v lies in the text", a)
		}
	}
	for i := range first {
		spilt := first[i].Atom.Range
		spilt = spilt[:cap(spilt)]
		for k := range spilt {
			spilt[k] = rng.Span{Lo: "spilt"}
		}
		if !ask.Same(first[i+1:], l[i+1:]) {
			t.Fatal("Parse: two ranges of one result share memory")
		}
		first[i] = ask.Ask{}
	}
	third, _, _ := ask.Parse(s)
	if !ask.Same(again, l) || !ask.Same(third, l) {
		t.Error("Parse: two results share memory")
	}
}

func TestP3SameCallsSameResults(t *testing.T) {
	good := mixed()
	text, _, _ := ask.Text(good)
	for range 3 {
		holdTextError(t, []ask.Ask{good[0], {Kind: ask.Remove}}, 1, api.ErrName)
		holdCheck(t, good[0], api.OK)
		holdParseError(t, "install a\nremove a (= 1)\n", 1, api.ErrArg)
		holdText(t, good, text)
	}
}

func TestP1AnyRequests(t *testing.T) {
	texts := []string{"", "a", "A", "1", "01", "x", " ", "\n", longVer, longName, "\xff", "\x00", "install a\n", strings.Repeat("a", 1<<16)}
	for _, kind := range slices.Concat(kinds, noKinds) {
		for _, name := range texts {
			for _, v := range texts {
				for _, r := range []rng.Range{nil, rng.All(), {{Lo: v}}, {{Lo: v, LoIn: true, HiIn: true}}, {{Hi: v}, {Lo: v}}, {only(v)}} {
					a := ask.Ask{Kind: kind, Atom: atom.Atom{Name: name, Range: r}}
					want := checkByItsWords(a)
					holdCheck(t, a, want)
					for _, n := range []int{1, 2, api.MaxAsks} {
						s, i, err := ask.Text(slices.Repeat([]ask.Ask{a}, n))
						if i != 0 || err != want || (s != "") != (err == api.OK) {
							t.Fatalf("Text of %d times %+v: %.80q, %d, %v; want %v", n, a, s, i, err, want)
						}
					}
				}
			}
		}
	}
}
