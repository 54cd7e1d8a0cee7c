package atom_test

import (
	"slices"
	"strconv"
	"strings"
	"testing"
	"unsafe"

	"manciple/api"
	"manciple/atom"
	"manciple/rng"
)

const maxVersions = 16

var long = strings.Repeat("1", api.MaxVer+1)

func only(v string) rng.Span { return rng.Span{Lo: v, Hi: v, LoIn: true, HiIn: true} }

// numbers returns n Spans of one version each.
func numbers(n int) rng.Range {
	var r rng.Range
	for i := range n {
		r = append(r, only(strconv.Itoa(i)))
	}
	return r
}

// between returns n Spans of two versions each.
func between(n int) rng.Range {
	var r rng.Range
	for i := range n {
		r = append(r, rng.Span{Lo: strconv.Itoa(2 * i), Hi: strconv.Itoa(2*i + 1)})
	}
	return r
}

func of(t *testing.T, sign, v string) rng.Range {
	t.Helper()
	r, err := rng.Of(sign, v)
	if err != api.OK {
		t.Fatalf("Of(%q, %q): %v", sign, v, err)
	}
	return r
}

func isZero(a atom.Atom) bool { return a.Name == "" && len(a.Range) == 0 }

func TestP401Name(t *testing.T) {
	for s, want := range map[string]bool{
		"": false, "a": true, "z": true, "abc": true, "a0": true, "z9": true, "a-": true, "a--b": true, "lib-2-z": true,
		"0": false, "9a": false, "-": false, "-a": false, "A": false, "aB": false, "a_": false, "a b": false, " a": false,
		"a ": false, "a\n": false, "a\x00": false, "a.": false, "a+": false, "é": false, "aé": false, "a\xff": false, "a/b": false,
		strings.Repeat("z", api.MaxName-1):          true,
		strings.Repeat("z", api.MaxName):            true,
		strings.Repeat("z", api.MaxName+1):          false,
		"a" + strings.Repeat("-", api.MaxName):      false,
		"a" + strings.Repeat("-", api.MaxName-1):    true,
		strings.Repeat("é", api.MaxName/2):          false,
		strings.Repeat("a", api.MaxText):            false,
		strings.Repeat("a", api.MaxName-1) + "\xff": false,
	} {
		if atom.Name(s) != want {
			t.Errorf("Name(%q): %v", s, !want)
		}
	}
}

func TestP401NameOfEveryByte(t *testing.T) {
	const letters, others = "abcdefghijklmnopqrstuvwxyz", "0123456789-"
	for c := range 256 {
		s := string([]byte{byte(c)})
		if want := strings.Contains(letters, s); atom.Name(s) != want {
			t.Errorf("Name(%q): %v", s, !want)
		}
		for _, s := range []string{s + "a", "a" + s, "a" + s + "a"} {
			want := strings.Contains(letters, s[:1]) && strings.Contains(letters+others, s[1:2])
			if atom.Name(s) != want {
				t.Errorf("Name(%q): %v", s, !want)
			}
		}
	}
}

func TestP401Check(t *testing.T) {
	tooMany := numbers(maxVersions + 1)
	for i, c := range []struct {
		a    atom.Atom
		want api.Errno
	}{
		{atom.Atom{Name: "a"}, api.OK},
		{atom.Atom{Name: "a", Range: rng.All()}, api.OK},
		{atom.Atom{Name: "a", Range: of(t, "!=", "1")}, api.OK},
		{atom.Atom{Name: strings.Repeat("a", api.MaxName), Range: of(t, "=", long[1:])}, api.OK},
		{atom.Atom{}, api.ErrName},
		{atom.Atom{Range: rng.All()}, api.ErrName},
		{atom.Atom{Name: "A"}, api.ErrName},
		{atom.Atom{Name: "a "}, api.ErrName},
		{atom.Atom{Name: strings.Repeat("a", api.MaxName+1)}, api.ErrName},
		{atom.Atom{Name: "A", Range: rng.Range{{Lo: long}}}, api.ErrName},
		{atom.Atom{Name: "A", Range: tooMany}, api.ErrName},
		{atom.Atom{Name: "a", Range: rng.Range{{Lo: long}}}, api.ErrLong},
		{atom.Atom{Name: "a", Range: rng.Range{{Hi: "x"}}}, api.ErrVer},
		{atom.Atom{Name: "a", Range: rng.Range{{Hi: "01"}}}, api.ErrVer},
		{atom.Atom{Name: "a", Range: rng.Range{{LoIn: true}}}, api.ErrArg},
		{atom.Atom{Name: "a", Range: rng.Range{{Lo: "2", Hi: "1"}}}, api.ErrOrder},
		{atom.Atom{Name: "a", Range: rng.Range{{}, {}}}, api.ErrOrder},
		{atom.Atom{Name: "a", Range: rng.Range{only("2"), only("1")}}, api.ErrOrder},
		{atom.Atom{Name: "a", Range: append(slices.Clone(tooMany), rng.Span{Lo: "x"})}, api.ErrVer},
		{atom.Atom{Name: "a", Range: append(slices.Clone(tooMany), only("1"))}, api.ErrOrder},
		{atom.Atom{Name: "a", Range: append(slices.Clone(tooMany), rng.Span{HiIn: true})}, api.ErrArg},
	} {
		if err := atom.Check(c.a); err != c.want {
			t.Errorf("%d: Check(%v): %v; want %v", i, c.a, err, c.want)
		}
	}
}

func TestP401CheckCountsTheVersionsOfTheText(t *testing.T) {
	below, above := rng.Span{Hi: "0~1"}, rng.Span{Lo: "99"}
	join := func(l ...rng.Range) rng.Range { return slices.Concat(l...) }
	for i, c := range []struct {
		r    rng.Range
		want int
	}{
		{numbers(15), 15},
		{numbers(16), 16},
		{numbers(17), 17},
		{numbers(64), 64},
		{between(7), 14},
		{between(8), 16},
		{between(9), 18},
		{join(rng.Range{below}, numbers(15)), 16},
		{join(rng.Range{below}, numbers(16)), 17},
		{join(numbers(15), rng.Range{above}), 16},
		{join(numbers(16), rng.Range{above}), 17},
		{join(rng.Range{below}, between(7), rng.Range{above}), 16},
		{join(rng.Range{below}, between(8)), 17},
		{join(rng.Range{below}, numbers(14), rng.Range{above}), 16},
		{join(rng.Range{below}, numbers(15), rng.Range{above}), 17},
		{join(between(7), rng.Range{only("90"), only("91")}), 16},
		{join(between(7), rng.Range{only("90"), only("91"), above}), 17},
		{join(between(7), rng.Range{{Lo: "90", Hi: "91", LoIn: true, HiIn: true}}), 16},
		{join(between(7), rng.Range{{Lo: "90", LoIn: true, Hi: "91"}, above}), 17},
	} {
		want := api.OK
		if c.want > maxVersions {
			want = api.ErrLong
		}
		a := atom.Atom{Name: "a", Range: c.r}
		if err := atom.Check(a); err != want {
			t.Errorf("%d: Check with %d versions: %v", i, c.want, err)
		}
		if n := strings.Count(atom.Text(a), "<") + strings.Count(atom.Text(a), ">") + strings.Count(atom.Text(a), "(= ") + strings.Count(atom.Text(a), "| = "); n != c.want {
			t.Errorf("%d: the text has %d versions; want %d", i, n, c.want)
		}
	}
}

func TestP401Same(t *testing.T) {
	var all []atom.Atom
	for _, name := range []string{"", "a", "b", "A", "a "} {
		for _, r := range []rng.Range{
			nil, rng.All(), of(t, "=", "1"), of(t, "!=", "1"), {{Lo: "01"}}, {{Lo: "1"}}, {{Lo: "1", LoIn: true}}, {{LoIn: true}},
			{{}, {}}, {{Lo: "x"}}, {{Lo: "2"}, {Hi: "1"}}, make(rng.Range, 100),
		} {
			all = append(all, atom.Atom{Name: name, Range: r})
		}
	}
	for i, a := range all {
		for k, b := range all {
			twin := atom.Atom{Name: strings.Clone(b.Name), Range: slices.Clone(b.Range)}
			if atom.Same(a, twin) != (i == k) {
				t.Errorf("Same(%v, %v): %v", a, b, i != k)
			}
		}
	}
	if !atom.Same(atom.Atom{Name: "a"}, atom.Atom{Name: "a", Range: rng.Range{}}) {
		t.Error("a nil Range is not the same as an empty one")
	}
}

// keep lays r at the start of an array whose rest has to stay as it is too.
func keep(r rng.Range) rng.Range {
	return append(slices.Clone(r), rng.Span{Lo: "spare"}, rng.Span{Hi: "spare"})[:len(r)]
}

func TestP2ArgumentsStayAsTheyAre(t *testing.T) {
	for _, r := range []rng.Range{nil, rng.All(), of(t, "!=", "1"), numbers(16), numbers(17), {{}, {Lo: "x"}}} {
		a := atom.Atom{Name: "a", Range: keep(r)}
		whole := a.Range[:cap(a.Range)]
		before := slices.Clone(whole)
		atom.Check(a)
		atom.Text(a)
		atom.Same(a, a)
		if !slices.Equal(whole, before) {
			t.Errorf("%v is now %v", before, whole)
		}
	}
}

// isIn tells whether v has a byte in the memory of s.
func isIn(v, s string) bool {
	first := func(s string) uintptr { return uintptr(unsafe.Pointer(unsafe.StringData(s))) }
	return v != "" && first(v) < first(s)+uintptr(len(s)) && first(s) < first(v)+uintptr(len(v))
}

func TestP2ResultsHoldNewStrings(t *testing.T) {
	for _, r := range []rng.Range{nil, rng.All(), of(t, "=", "11"), {{}, {}}} {
		for _, name := range []string{"a", "name", "-"} {
			name := strings.Clone(name)
			if isIn(atom.Text(atom.Atom{Name: name, Range: r}), name) {
				t.Errorf("the text of %v holds the name's memory", r)
			}
		}
	}
	for _, s := range []string{"a", "name", "name (none)", "name (>= 11 & < 22 | = 33)", "name (!= 44)"} {
		s := strings.Clone(s)
		a, err := atom.Parse(s)
		if err != api.OK || isIn(a.Name, s) {
			t.Errorf("Parse(%q): %v, or a name in the memory of the text", s, err)
		}
		for _, span := range a.Range {
			if isIn(span.Lo, s) || isIn(span.Hi, s) {
				t.Errorf("Parse(%q): a version in the memory of the text", s)
			}
		}
	}
}

func TestP2ResultsAreNewMemory(t *testing.T) {
	for _, s := range []string{"a", "a (none)", "a (!= 1)", "a (= 1 | = 3)"} {
		first, _ := atom.Parse(s)
		again, _ := atom.Parse(s)
		want := slices.Clone(again.Range)
		spilt := first.Range[:cap(first.Range)]
		for i := range spilt {
			spilt[i] = rng.Span{Lo: "spilt"}
		}
		if !slices.Equal(again.Range, want) || !slices.Equal(rng.All(), rng.Range{{}}) {
			t.Errorf("Parse(%q) shares memory with another call's result", s)
		}
	}
}

func TestP1AnyAtoms(t *testing.T) {
	texts := []string{"", "1", "2", "01", "x", long, "a b", "(", "\xff"}
	for _, name := range []string{"", "a", "A", "a (= 1)", "\xff"} {
		for _, lo := range texts {
			for _, hi := range texts {
				for flags := range 4 {
					s := rng.Span{Lo: lo, Hi: hi, LoIn: flags&1 != 0, HiIn: flags&2 != 0}
					for _, r := range []rng.Range{{s}, {{}, s}, {s, {}}, {s, s}} {
						checkAny(t, atom.Atom{Name: name, Range: r})
					}
				}
			}
		}
	}
	checkAny(t, atom.Atom{Name: "a", Range: make(rng.Range, 1<<16)})
}

// checkAny holds Check against what it is made of.
func checkAny(t *testing.T, a atom.Atom) {
	t.Helper()
	atom.Text(a)
	want := rng.Check(a.Range)
	if !atom.Name(a.Name) {
		want = api.ErrName
	}
	if err := atom.Check(a); err != want {
		t.Fatalf("Check(%v): %v; want %v", a, err, want)
	}
}
