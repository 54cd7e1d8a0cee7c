package pkg_test

import (
	"math"
	"math/rand"
	"slices"
	"strconv"
	"strings"
	"testing"
	"unsafe"

	"manciple/api"
	"manciple/atom"
	"manciple/pkg"
	"manciple/rng"
	"manciple/ver"
	"manciple/weight"
)

var (
	longName = strings.Repeat("n", api.MaxName+1)
	longVer  = strings.Repeat("1", api.MaxVer+1)
)

func parsed(t *testing.T, s string) atom.Atom {
	t.Helper()
	a, err := atom.Parse(s)
	if err != api.OK {
		t.Fatalf("Parse(%q): %v", s, err)
	}
	return a
}

// atoms returns the atoms with those texts.
func atoms(t *testing.T, texts ...string) []atom.Atom {
	t.Helper()
	var l []atom.Atom
	for _, s := range texts {
		l = append(l, parsed(t, s))
	}
	return l
}

// full returns a package that has something in each of its fields.
func full(t *testing.T) pkg.Pkg {
	t.Helper()
	return pkg.Pkg{
		Name:      "gcc",
		Ver:       "1:4.2-1",
		Depends:   []pkg.Dep{atoms(t, "libc (>= 2)"), atoms(t, "as", "or", "clang (< 3 | > 4)")},
		Conflicts: atoms(t, "tcc (= 1 | = 2)", "gcc"),
		Provides:  []pkg.Give{{"cc", "4"}, {"c-compiler", ""}},
		Weight:    -1.5,
	}
}

// twin returns a copy that shares no memory with p.
func twin(p pkg.Pkg) pkg.Pkg {
	p.Name, p.Ver = strings.Clone(p.Name), strings.Clone(p.Ver)
	p.Depends = slices.Clone(p.Depends)
	for i := range p.Depends {
		p.Depends[i] = twinAtoms(p.Depends[i])
	}
	p.Conflicts = twinAtoms(p.Conflicts)
	p.Provides = slices.Clone(p.Provides)
	return p
}

func twinAtoms(l []atom.Atom) []atom.Atom {
	l = slices.Clone(l)
	for i := range l {
		l[i].Range = slices.Clone(l[i].Range)
	}
	return l
}

func isZero(p pkg.Pkg) bool {
	return p.Name == "" && p.Ver == "" && p.Depends == nil && p.Conflicts == nil && p.Provides == nil && math.Float64bits(p.Weight) == 0
}

// spoiling does something to a package, by which Check comes to that error.
type spoiling struct {
	part string
	do   func(p *pkg.Pkg)
	want api.Errno
}

// spoilings returns them in the order in which P601 names the parts.
func spoilings(t *testing.T) []spoiling {
	b, wrong := parsed(t, "b"), atom.Atom{Name: "b", Range: rng.Range{{LoIn: true}}}
	deps := func(l ...pkg.Dep) func(p *pkg.Pkg) { return func(p *pkg.Pkg) { p.Depends = l } }
	dep := func(l ...atom.Atom) func(p *pkg.Pkg) { return deps(pkg.Dep{b}, l, nil) }
	conflicts := func(l ...atom.Atom) func(p *pkg.Pkg) { return func(p *pkg.Pkg) { p.Conflicts = l } }
	gives := func(l ...pkg.Give) func(p *pkg.Pkg) { return func(p *pkg.Pkg) { p.Provides = l } }
	name := func(s string) func(p *pkg.Pkg) { return func(p *pkg.Pkg) { p.Name = s } }
	version := func(s string) func(p *pkg.Pkg) { return func(p *pkg.Pkg) { p.Ver = s } }
	heavy := func(f float64) func(p *pkg.Pkg) { return func(p *pkg.Pkg) { p.Weight = f } }
	return []spoiling{
		{"Name", name(""), api.ErrName},
		{"Name", name("A"), api.ErrName},
		{"Name", name("0"), api.ErrName},
		{"Name", name("a b"), api.ErrName},
		{"Name", name(longName), api.ErrName},
		{"Ver", version(longVer), api.ErrLong},
		{"Ver", version(""), api.ErrVer},
		{"Ver", version("x"), api.ErrVer},
		{"Ver", version("01"), api.ErrVer},
		{"Ver", version("0:1"), api.ErrVer},
		{"Ver", version("1-0"), api.ErrVer},
		{"Ver", version("1.00"), api.ErrVer},
		{"Depends", deps(slices.Repeat([]pkg.Dep{{b}}, api.MaxDeps+1)...), api.ErrLong},
		{"Depends", deps(make([]pkg.Dep, api.MaxDeps+1)...), api.ErrLong},
		{"Depends", deps(slices.Repeat([]pkg.Dep{{wrong}}, api.MaxDeps+1)...), api.ErrLong},
		{"Depends", dep(), api.ErrLong},
		{"Depends", dep(slices.Repeat(atoms(t, "b"), api.MaxAtoms+1)...), api.ErrLong},
		{"Depends", dep(make([]atom.Atom, api.MaxAtoms+1)...), api.ErrLong},
		{"Depends", dep(make([]atom.Atom, api.MaxAtoms)...), api.ErrName},
		{"Depends", dep(wrong), api.ErrArg},
		{"Depends", dep(b, b, wrong, atom.Atom{}), api.ErrArg},
		{"Depends", dep(b, atom.Atom{}, wrong), api.ErrName},
		{"Depends", dep(atom.Atom{Name: "b", Range: rng.Range{{Hi: "x"}}}), api.ErrVer},
		{"Depends", dep(atom.Atom{Name: "b", Range: rng.Range{{}, {}}}), api.ErrOrder},
		{"Depends", dep(atom.Atom{Name: "b", Range: points(17)}), api.ErrLong},
		{"Conflicts", conflicts(slices.Repeat(atoms(t, "b"), api.MaxDeps+1)...), api.ErrLong},
		{"Conflicts", conflicts(make([]atom.Atom, api.MaxDeps+1)...), api.ErrLong},
		{"Conflicts", conflicts(make([]atom.Atom, api.MaxDeps)...), api.ErrName},
		{"Conflicts", conflicts(b, wrong, atom.Atom{}), api.ErrArg},
		{"Conflicts", conflicts(b, atom.Atom{Name: "b", Range: points(17)}, wrong), api.ErrLong},
		{"Conflicts", conflicts(atom.Atom{Name: "b", Range: rng.Range{{Hi: "x"}}}), api.ErrVer},
		{"Provides", gives(slices.Repeat([]pkg.Give{{"b", ""}}, api.MaxDeps+1)...), api.ErrLong},
		{"Provides", gives(make([]pkg.Give, api.MaxDeps+1)...), api.ErrLong},
		{"Provides", gives(make([]pkg.Give, api.MaxDeps)...), api.ErrName},
		{"Provides", gives(pkg.Give{"b", "1"}, pkg.Give{"B", longVer}), api.ErrName},
		{"Provides", gives(pkg.Give{longName, "1"}), api.ErrName},
		{"Provides", gives(pkg.Give{"b", ""}, pkg.Give{"b", longVer}, pkg.Give{}), api.ErrLong},
		{"Provides", gives(pkg.Give{"b", "x"}, pkg.Give{}), api.ErrVer},
		{"Provides", gives(pkg.Give{"b", "0"}, pkg.Give{"b", "1-0"}, pkg.Give{}), api.ErrVer},
		{"Provides", gives(pkg.Give{"b", "00"}), api.ErrVer},
		{"Weight", heavy(math.NaN()), api.ErrWeight},
		{"Weight", heavy(math.Copysign(math.NaN(), -1)), api.ErrWeight},
	}
}

// points returns n Spans of one version each.
func points(n int) rng.Range {
	var r rng.Range
	for i := range n {
		v := strconv.Itoa(i)
		r = append(r, rng.Span{Lo: v, Hi: v, LoIn: true, HiIn: true})
	}
	return r
}

func TestP601CheckRefuses(t *testing.T) {
	for i, s := range spoilings(t) {
		for _, p := range []pkg.Pkg{full(t), {Name: "a", Ver: "0"}} {
			s.do(&p)
			if err := pkg.Check(p); err != s.want {
				t.Errorf("%d: Check with spoilt %s: %v; want %v", i, s.part, err, s.want)
			}
		}
	}
}

// TestP601CheckTellsTheFirstError spoils two parts of a package.
func TestP601CheckTellsTheFirstError(t *testing.T) {
	all := spoilings(t)
	for i, first := range all {
		for _, later := range all[i+1:] {
			if first.part == later.part {
				continue
			}
			p := full(t)
			later.do(&p)
			first.do(&p)
			if err := pkg.Check(p); err != first.want {
				t.Errorf("%d: Check with spoilt %s and %s: %v; want %v", i, first.part, later.part, err, first.want)
			}
		}
	}
}

func TestP601CheckAccepts(t *testing.T) {
	b := parsed(t, "b")
	for i, p := range []pkg.Pkg{
		full(t),
		{Name: "a", Ver: "0"},
		{Name: longName[1:], Ver: longVer[1:]},
		{Name: "a", Ver: "999999:0a~0-0.1"},
		{Name: "a", Ver: "0", Depends: slices.Repeat([]pkg.Dep{slices.Repeat(pkg.Dep{b}, api.MaxAtoms)}, api.MaxDeps)},
		{Name: "a", Ver: "0", Depends: []pkg.Dep{{b}, {b, b}, {b}}},
		{Name: "a", Ver: "0", Depends: []pkg.Dep{}, Conflicts: []atom.Atom{}, Provides: []pkg.Give{}},
		{Name: "a", Ver: "0", Depends: []pkg.Dep{{{Name: "a", Range: points(16)}}}},
		{Name: "a", Ver: "0", Conflicts: slices.Repeat(atoms(t, "a (none)"), api.MaxDeps)},
		{Name: "a", Ver: "0", Conflicts: []atom.Atom{{Name: "a", Range: points(16)}, {Name: "a"}}},
		{Name: "a", Ver: "0", Provides: slices.Repeat([]pkg.Give{{"a", ""}}, api.MaxDeps)},
		{Name: "a", Ver: "0", Provides: []pkg.Give{{longName[1:], longVer[1:]}, {"a", "0"}, {"a", "0"}}},
		{Name: "a", Ver: "0", Weight: math.Inf(1)},
		{Name: "a", Ver: "0", Weight: math.Inf(-1)},
		{Name: "a", Ver: "0", Weight: math.Copysign(0, -1)},
		{Name: "a", Ver: "0", Weight: math.MaxFloat64},
		{Name: "a", Ver: "0", Weight: -math.SmallestNonzeroFloat64},
	} {
		if err := pkg.Check(p); err != api.OK {
			t.Errorf("%d: Check: %v", i, err)
		}
	}
}

func TestP601Same(t *testing.T) {
	a, b := parsed(t, "a"), parsed(t, "b")
	odd := rng.Range{{Lo: "x", HiIn: true}, {}}
	all := []pkg.Pkg{
		{}, full(t), {Name: "a"}, {Name: "A"}, {Name: "a", Ver: "1"}, {Name: "a", Ver: "01"}, {Ver: "1"}, {Ver: "a"},
		{Depends: []pkg.Dep{{}}}, {Depends: []pkg.Dep{{}, {}}}, {Depends: []pkg.Dep{{a}}}, {Depends: []pkg.Dep{{b}}}, {Depends: []pkg.Dep{{a}, {}}},
		{Depends: []pkg.Dep{{}, {a}}}, {Depends: []pkg.Dep{{a}, {b}}}, {Depends: []pkg.Dep{{b}, {a}}}, {Depends: []pkg.Dep{{a, b}}},
		{Depends: []pkg.Dep{{b, a}}}, {Depends: []pkg.Dep{{a, b, a}}}, {Depends: []pkg.Dep{{{Name: "a"}}}}, {Depends: []pkg.Dep{{{Name: "a", Range: odd}}}},
		{Conflicts: []atom.Atom{{}}}, {Conflicts: []atom.Atom{a}}, {Conflicts: []atom.Atom{b}}, {Conflicts: []atom.Atom{a, b}}, {Conflicts: []atom.Atom{b, a}},
		{Conflicts: []atom.Atom{{Name: "a"}}}, {Conflicts: []atom.Atom{{Name: "a", Range: odd}}}, {Conflicts: []atom.Atom{a, b, {}}},
		{Provides: []pkg.Give{{}}}, {Provides: []pkg.Give{{}, {}}}, {Provides: []pkg.Give{{"a", ""}}}, {Provides: []pkg.Give{{"", "a"}}},
		{Provides: []pkg.Give{{"a", "1"}}}, {Provides: []pkg.Give{{"a", "01"}}}, {Provides: []pkg.Give{{"a", "1"}, {"b", "1"}}},
		{Provides: []pkg.Give{{"b", "1"}, {"a", "1"}}},
		{Weight: 1}, {Weight: -1}, {Weight: math.Copysign(0, -1)}, {Weight: math.Inf(1)}, {Weight: math.Inf(-1)}, {Weight: math.Nextafter(1, 2)},
		{Weight: math.NaN()}, {Weight: math.Copysign(math.NaN(), -1)},
	}
	for i, p := range all {
		for k, q := range all {
			if pkg.Same(p, twin(q)) != (i == k) {
				t.Errorf("Same(%v, %v): %v", p, q, i != k)
			}
		}
	}
}

func TestP601SameIsBlindToEqualForms(t *testing.T) {
	empty := pkg.Pkg{Depends: []pkg.Dep{}, Conflicts: []atom.Atom{}, Provides: []pkg.Give{}}
	if !pkg.Same(empty, pkg.Pkg{}) || !pkg.Same(pkg.Pkg{}, empty) {
		t.Error("empty lists differ from nil ones")
	}
	withNil := pkg.Pkg{Depends: []pkg.Dep{nil}, Conflicts: []atom.Atom{{Name: "a"}}}
	without := pkg.Pkg{Depends: []pkg.Dep{{}}, Conflicts: []atom.Atom{{Name: "a", Range: rng.Range{}}}}
	if !pkg.Same(withNil, without) {
		t.Error("an empty Dep or Range differs from a nil one")
	}
	other := pkg.Pkg{Weight: math.Float64frombits(math.Float64bits(math.NaN()) ^ 6)}
	if !math.IsNaN(other.Weight) || !pkg.Same(pkg.Pkg{Weight: math.NaN()}, other) {
		t.Error("one NaN differs from another one")
	}
}

func TestP601Meets(t *testing.T) {
	for i, c := range []struct {
		p        pkg.Pkg
		yes, not []string
	}{
		{
			pkg.Pkg{Name: "a", Ver: "2"},
			[]string{"a", "a (= 2)", "a (= 0:02-0)", "a (>= 2)", "a (> 1 & < 3)", "a (= 1 | = 2)", "a (!= 1)"},
			[]string{"b", "b (= 2)", "a (none)", "a (!= 2)", "a (> 2)", "a (< 2)", "a (= 2-1)", "a (= 1 | = 3)", "aa", "a-"},
		},
		{
			pkg.Pkg{Name: "a", Ver: "2", Provides: []pkg.Give{{"v", "5"}}},
			[]string{"a (= 2)", "v", "v (= 5)", "v (> 2)", "v (!= 2)", "a (< 5)"},
			[]string{"v (none)", "v (= 2)", "v (!= 5)", "a (= 5)", "a (> 2)", "w"},
		},
		{
			pkg.Pkg{Name: "a", Ver: "2", Provides: []pkg.Give{{"w", ""}}},
			[]string{"a", "a (= 2)", "w"},
			[]string{"w (none)", "w (= 2)", "w (!= 2)", "w (>= 0~0)", "w (>= 2 | < 1)", "v", "a (> 2)"},
		},
		{
			pkg.Pkg{Name: "a", Ver: "2", Provides: []pkg.Give{{"v", "5"}, {"v", ""}, {"a", "7"}, {"v", "6"}, {"a", ""}}},
			[]string{"a", "a (= 2)", "a (= 7)", "a (> 2)", "v", "v (= 5)", "v (= 6)", "v (> 5)", "v (< 6)"},
			[]string{"a (= 6)", "a (none)", "a (> 2 & < 7)", "v (= 2)", "v (= 7)", "v (none)", "v (> 5 & < 6)", "v (> 6)"},
		},
		{
			pkg.Pkg{Name: "a", Ver: "2", Depends: []pkg.Dep{atoms(t, "b", "c")}, Conflicts: atoms(t, "a", "d"), Weight: 3},
			[]string{"a", "a (= 2)"},
			[]string{"b", "c", "d", "a (= 3)"},
		},
		{
			pkg.Pkg{Name: "b", Ver: "1", Provides: []pkg.Give{{"a", "2"}, {"c", "3"}}},
			[]string{"a (= 2)", "b (= 1)", "c (= 3)"},
			[]string{"a (= 1)", "a (= 3)", "b (= 2)", "b (= 3)", "c (= 1)", "c (= 2)"},
		},
	} {
		for _, s := range c.yes {
			if !pkg.Meets(c.p, parsed(t, s)) {
				t.Errorf("%d: Meets(%v, %s): false", i, c.p, s)
			}
		}
		for _, s := range c.not {
			if pkg.Meets(c.p, parsed(t, s)) {
				t.Errorf("%d: Meets(%v, %s): true", i, c.p, s)
			}
		}
	}
}

// TestP601MeetsAgainstItsWords asks with every sign and version of a few.
func TestP601MeetsAgainstItsWords(t *testing.T) {
	random := rand.New(rand.NewSource(601))
	names, versions := []string{"a", "b", "c"}, []string{"0", "1~1", "1", "1-1", "2", "1:0"}
	pick := func(l []string) string { return l[random.Intn(len(l))] }
	for range 2000 {
		p := pkg.Pkg{Name: pick(names), Ver: pick(versions)}
		for range random.Intn(4) {
			p.Provides = append(p.Provides, pkg.Give{pick(names), pick(append(versions, ""))})
		}
		for _, name := range names {
			for _, v := range versions {
				for _, sign := range []string{"=", "!=", "<", "<=", ">", ">="} {
					want := meetsByItsWords(p, name, sign, v)
					if pkg.Meets(p, parsed(t, name+" ("+sign+" "+v+")")) != want {
						t.Fatalf("Meets(%v, %s (%s %s)): %v", p, name, sign, v, !want)
					}
				}
			}
			want := p.Name == name || slices.ContainsFunc(p.Provides, func(g pkg.Give) bool { return g.Name == name })
			if pkg.Meets(p, parsed(t, name)) != want || pkg.Meets(p, parsed(t, name+" (none)")) {
				t.Fatalf("Meets(%v, %s): %v; or it meets a range of no versions", p, name, !want)
			}
		}
	}
}

func meetsByItsWords(p pkg.Pkg, name, sign, v string) bool {
	for _, g := range append([]pkg.Give{{p.Name, p.Ver}}, p.Provides...) {
		if g.Name == name && g.Ver != "" && fulfils(ver.Compare(g.Ver, v), sign) {
			return true
		}
	}
	return false // a sign and a version are never the Range All
}

func fulfils(order int, sign string) bool {
	switch sign {
	case "=":
		return order == 0
	case "!=":
		return order != 0
	case "<":
		return order < 0
	case "<=":
		return order <= 0
	case ">":
		return order > 0
	}
	return order >= 0
}

// isIn tells whether v has a byte in the memory of s.
func isIn(v, s string) bool {
	first := func(s string) uintptr { return uintptr(unsafe.Pointer(unsafe.StringData(s))) }
	return v != "" && s != "" && first(v) < first(s)+uintptr(len(s)) && first(s) < first(v)+uintptr(len(v))
}

func TestP2ArgumentsStayAsTheyAre(t *testing.T) {
	spare := parsed(t, "spare")
	p := full(t)
	p.Depends = append(p.Depends, pkg.Dep{spare}, pkg.Dep{spare})[:2]
	p.Depends[0] = append(p.Depends[0], spare, spare)[:1]
	p.Conflicts = append(p.Conflicts, spare, spare)[:2]
	p.Provides = append(p.Provides, pkg.Give{"spare", ""}, pkg.Give{"spare", ""})[:2]
	whole := func() pkg.Pkg {
		q := p
		q.Depends, q.Conflicts, q.Provides = p.Depends[:4], p.Conflicts[:4], p.Provides[:4]
		q.Depends = append(slices.Clone(q.Depends), p.Depends[0][:3])
		return q
	}
	before := twin(whole())
	pkg.Check(p)
	pkg.To(p)
	pkg.Meets(p, parsed(t, "cc (= 4)"))
	pkg.Same(p, p)
	pkg.DepText(p.Depends[0])
	if !pkg.Same(whole(), before) {
		t.Errorf("%v is now %v", before, whole())
	}
}

func TestP3SameCallsSameResults(t *testing.T) {
	wrong := full(t)
	wrong.Provides[1].Name = "B"
	for range 3 {
		if err := pkg.Check(wrong); err != api.ErrName {
			t.Errorf("Check: %v", err)
		}
		if err := pkg.Check(full(t)); err != api.OK {
			t.Errorf("Check: %v", err)
		}
		if !pkg.Meets(full(t), parsed(t, "cc (= 4)")) || pkg.Meets(full(t), parsed(t, "cc (= 5)")) {
			t.Error("Meets has changed")
		}
	}
}

func TestP1AnyPackages(t *testing.T) {
	texts := []string{"", "a", "A", "1", "01", "x", longVer, longName, "\xff", "a = 1; b", strings.Repeat("1", 1<<16)}
	weights := []float64{0, math.Copysign(0, -1), math.NaN(), math.Inf(-1), math.MaxFloat64}
	for _, name := range texts {
		for _, v := range texts {
			for _, w := range weights {
				a := atom.Atom{Name: name, Range: rng.Range{{Lo: v, HiIn: true}, {}, {Hi: v, LoIn: true}}}
				checkAny(t, pkg.Pkg{Name: name, Ver: v, Weight: w}, a)
				checkAny(t, pkg.Pkg{Name: "a", Ver: "1", Provides: []pkg.Give{{name, v}}, Weight: w}, a)
				p := pkg.Pkg{Name: name, Ver: v, Depends: []pkg.Dep{nil, {a}, {a, a}}, Conflicts: []atom.Atom{{}, a}, Provides: []pkg.Give{{}, {name, v}}, Weight: w}
				checkAny(t, p, a)
			}
		}
	}
	many := pkg.Pkg{Depends: make([]pkg.Dep, 1<<16), Conflicts: make([]atom.Atom, 1<<16), Provides: make([]pkg.Give, 1<<16)}
	checkAny(t, many, atom.Atom{})
	checkAny(t, pkg.Pkg{Name: "a", Ver: "1", Depends: []pkg.Dep{make(pkg.Dep, 1<<16)}}, atom.Atom{})
}

// checkAny calls everything and holds Check against what it is made of.
func checkAny(t *testing.T, p pkg.Pkg, a atom.Atom) {
	t.Helper()
	pkg.To(p)
	pkg.Meets(p, a)
	for _, d := range p.Depends {
		pkg.DepText(d)
	}
	if !pkg.Same(p, twin(p)) {
		t.Fatalf("%v is not the same as its twin", p)
	}
	if err := pkg.Check(p); err != checkByItsWords(p) {
		t.Fatalf("Check(%v): %v; want %v", p, err, checkByItsWords(p))
	}
}

// checkByItsWords lists what P601 names, in its order; the first error counts.
func checkByItsWords(p pkg.Pkg) api.Errno {
	var told []api.Errno
	tell := func(wrong bool, err api.Errno) {
		if wrong {
			told = append(told, err)
		}
	}
	tellVersion := func(v string) {
		told = append(told, ver.Check(v))
		canon, err := ver.Canon(v)
		tell(err == api.OK && canon != v, api.ErrVer)
	}
	tell(!atom.Name(p.Name), api.ErrName)
	tellVersion(p.Ver)
	tell(len(p.Depends) > 16, api.ErrLong)
	for _, d := range p.Depends {
		tell(len(d) == 0 || len(d) > 8, api.ErrLong)
		for _, a := range d {
			told = append(told, atom.Check(a))
		}
	}
	tell(len(p.Conflicts) > 16, api.ErrLong)
	for _, a := range p.Conflicts {
		told = append(told, atom.Check(a))
	}
	tell(len(p.Provides) > 16, api.ErrLong)
	for _, g := range p.Provides {
		tell(!atom.Name(g.Name), api.ErrName)
		if g.Ver != "" {
			tellVersion(g.Ver)
		}
	}
	told = append(told, weight.Check(p.Weight), api.OK)
	for _, err := range told {
		if err != api.OK {
			return err
		}
	}
	return api.OK
}
