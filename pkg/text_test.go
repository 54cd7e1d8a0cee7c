package pkg_test

import (
	"math"
	"math/rand"
	"slices"
	"strconv"
	"strings"
	"testing"

	"manciple/api"
	"manciple/atom"
	"manciple/pkg"
	"manciple/rng"
	"manciple/stanza"
	"manciple/ver"
	"manciple/weight"
)

// row returns the stanza with those fields; their Lines are not 0.
func row(fields ...string) stanza.Stanza {
	var s stanza.Stanza
	for i, f := range fields {
		key, value, _ := strings.Cut(f, ": ")
		s = append(s, stanza.Field{Key: key, Value: value, Line: 20 + i})
	}
	return s
}

// lines returns the fields of a stanza whose Lines are all 0.
func lines(t *testing.T, s stanza.Stanza) []string {
	t.Helper()
	var l []string
	for _, f := range s {
		if f.Line != 0 {
			t.Errorf("the Line of %s is %d", f.Key, f.Line)
		}
		l = append(l, f.Key+": "+f.Value)
	}
	return l
}

// named returns n names with that text between them.
func named(n int, between string) string {
	var l []string
	for i := range n {
		l = append(l, "n"+strconv.Itoa(i))
	}
	return strings.Join(l, between)
}

func TestP602BothWays(t *testing.T) {
	for i, c := range []struct {
		p      pkg.Pkg
		fields []string
	}{
		{pkg.Pkg{Name: "a", Ver: "0"}, []string{"Package: a", "Version: 0"}},
		{
			full(t),
			[]string{
				"Package: gcc", "Version: 1:4.2-1", "Depends: libc (>= 2); as or or or clang (< 3 | > 4)", "Conflicts: tcc (= 1 | = 2); gcc",
				"Provides: cc = 4; c-compiler", "Weight: -3p-1",
			},
		},
		{
			pkg.Pkg{Name: "a", Ver: "1.2", Provides: []pkg.Give{{"v", "3"}, {"w", ""}}},
			[]string{"Package: a", "Version: 1.2", "Provides: v = 3; w"},
		},
		{pkg.Pkg{Name: "a", Ver: "1", Depends: []pkg.Dep{atoms(t, "b")}}, []string{"Package: a", "Version: 1", "Depends: b"}},
		{
			pkg.Pkg{Name: "a", Ver: "1", Depends: []pkg.Dep{atoms(t, "or"), atoms(t, "or", "or"), atoms(t, "or", "or", "or (none)", "or")}},
			[]string{"Package: a", "Version: 1", "Depends: or; or or or; or or or or or (none) or or"},
		},
		{
			pkg.Pkg{Name: "a", Ver: "1", Depends: []pkg.Dep{atoms(t, "a", "a"), atoms(t, "a", "a")}},
			[]string{"Package: a", "Version: 1", "Depends: a or a; a or a"},
		},
		{pkg.Pkg{Name: "a", Ver: "1", Conflicts: atoms(t, "a (!= 1)")}, []string{"Package: a", "Version: 1", "Conflicts: a (< 1 | > 1)"}},
		{pkg.Pkg{Name: "a", Ver: "1", Provides: []pkg.Give{{"a", "1"}}}, []string{"Package: a", "Version: 1", "Provides: a = 1"}},
		{pkg.Pkg{Name: "a", Ver: "1", Provides: []pkg.Give{{"a", ""}, {"a", ""}}}, []string{"Package: a", "Version: 1", "Provides: a; a"}},
		{pkg.Pkg{Name: "a", Ver: "1", Provides: []pkg.Give{{"b", "0"}, {"b", "1-1"}}}, []string{"Package: a", "Version: 1", "Provides: b = 0; b = 1-1"}},
		{pkg.Pkg{Name: "a", Ver: "1", Weight: math.Copysign(0, -1)}, []string{"Package: a", "Version: 1", "Weight: -0"}},
		{pkg.Pkg{Name: "a", Ver: "1", Weight: math.Inf(1)}, []string{"Package: a", "Version: 1", "Weight: inf"}},
		{pkg.Pkg{Name: "a", Ver: "1", Weight: math.Inf(-1)}, []string{"Package: a", "Version: 1", "Weight: -inf"}},
		{pkg.Pkg{Name: "a", Ver: "1", Weight: 10}, []string{"Package: a", "Version: 1", "Weight: 5p1"}},
		{pkg.Pkg{Name: "a", Ver: "1", Weight: math.SmallestNonzeroFloat64}, []string{"Package: a", "Version: 1", "Weight: 1p-1074"}},
		{
			pkg.Pkg{Name: "a", Ver: "1", Depends: []pkg.Dep{atoms(t, "b")}, Conflicts: atoms(t, "c"), Weight: 1},
			[]string{"Package: a", "Version: 1", "Depends: b", "Conflicts: c", "Weight: 1p0"},
		},
	} {
		if err := pkg.Check(c.p); err != api.OK {
			t.Fatalf("%d: Check: %v", i, err)
		}
		if got := lines(t, pkg.To(c.p)); !slices.Equal(got, c.fields) {
			t.Errorf("%d: To: %q; want %q", i, got, c.fields)
		}
		if p, at, err := pkg.From(row(c.fields...)); !pkg.Same(p, c.p) || at != 0 || err != api.OK {
			t.Errorf("%d: From(%q): %v, %d, %v", i, c.fields, p, at, err)
		}
	}
}

func TestP602FromMakesCanonical(t *testing.T) {
	want := pkg.Pkg{
		Name: "a", Ver: "1.2", Depends: []pkg.Dep{{{Name: "b", Range: rng.Range{{Lo: "1", Hi: "3", LoIn: true}}}}},
		Conflicts: atoms(t, "c", "d (none)"), Provides: []pkg.Give{{"v", "3"}, {"w", ""}},
	}
	s := row(
		"Package: a", "Version: 0:01.002-00", "Depends: b (>= 01 & < 4 & < 0:3)", "Conflicts: c (<= 1 | > 1); d (< 1 & > 2)",
		"Provides: v = 000:03-0; w", "Weight: 0",
	)
	p, at, err := pkg.From(s)
	if !pkg.Same(p, want) || at != 0 || err != api.OK {
		t.Errorf("From: %v, %d, %v; want %v", p, at, err, want)
	}
	if err := pkg.Check(p); err != api.OK {
		t.Errorf("Check of what From returned: %v", err)
	}
}

func TestP602DepText(t *testing.T) {
	for want, d := range map[string]pkg.Dep{
		"a":                          atoms(t, "a"),
		"a (= 1)":                    atoms(t, "a (= 01)"),
		"a or b":                     atoms(t, "a", "b"),
		"b or a":                     atoms(t, "b", "a"),
		"a or a":                     atoms(t, "a", "a"),
		"or or or or or":             atoms(t, "or", "or", "or"),
		"a (none) or b (> 1 & <= 2)": atoms(t, "a (none)", "b (> 1 & <= 2)"),
		named(8, " or "):             atoms(t, "n0", "n1", "n2", "n3", "n4", "n5", "n6", "n7"),
	} {
		if s := pkg.DepText(d); s != want {
			t.Errorf("DepText: %q; want %q", s, want)
		}
	}
}

// holdError tells whether From answers the error and its field and no package.
func holdError(t *testing.T, s stanza.Stanza, field int, want api.Errno) {
	t.Helper()
	if p, i, err := pkg.From(s); !isZero(p) || i != field || err != want {
		t.Errorf("From(%.200v): %v, %d, %v; want %d, %v", s, p, i, err, field, want)
	}
}

func TestP602FromOfOtherFields(t *testing.T) {
	for i, c := range []struct {
		keys  string
		field int
		want  api.Errno
	}{
		{"", 0, api.ErrField},
		{"Package", 0, api.ErrField},
		{"Version", 0, api.ErrField},
		{"Depends Conflicts Provides Weight", 0, api.ErrField},
		{"Package Depends", 0, api.ErrField},
		{"Package Conflicts Weight", 0, api.ErrField},
		{"Version Provides", 0, api.ErrField},
		{"Weight", 0, api.ErrField},
		{"package Version", 0, api.ErrField},
		{"Name Version", 0, api.ErrField},
		{"Package Ver", 1, api.ErrField},
		{"Package Version Depend", 2, api.ErrField},
		{"Package Version depends", 2, api.ErrField},
		{"Package Version Depends Conflicts Provides Weight Hash", 6, api.ErrField},
		{"Package Version Depends Conflicts Gives Weight", 4, api.ErrField},
		{"Version Package", 1, api.ErrOrder},
		{"Package Package", 1, api.ErrOrder},
		{"Package Package Version", 1, api.ErrOrder},
		{"Package Version Version", 2, api.ErrOrder},
		{"Package Depends Version", 2, api.ErrOrder},
		{"Package Version Depends Depends", 3, api.ErrOrder},
		{"Package Version Conflicts Depends", 3, api.ErrOrder},
		{"Package Version Provides Conflicts", 3, api.ErrOrder},
		{"Package Version Weight Provides", 3, api.ErrOrder},
		{"Package Version Depends Weight Weight", 4, api.ErrOrder},
		{"Depends Depends", 1, api.ErrOrder},
		{"Version Version", 1, api.ErrOrder},
		{"Weight Hash", 1, api.ErrField},
		{"Package Weight Version Hash", 2, api.ErrOrder},
		{"Package Hash Version Version", 1, api.ErrField},
	} {
		var s stanza.Stanza
		for _, key := range strings.Fields(c.keys) {
			// Values come later than keys, so that none is looked at here.
			s = append(s, stanza.Field{Key: key, Value: "?", Line: 9})
		}
		if p, at, err := pkg.From(s); !isZero(p) || at != c.field || err != c.want {
			t.Errorf("%d: From of %s: %v, %d, %v; want %d, %v", i, c.keys, p, at, err, c.field, c.want)
		}
	}
}

// wrongValue is a field with a value that From does not take.
type wrongValue struct {
	field string
	want  api.Errno
}

func wrongValues() []wrongValue {
	return []wrongValue{
		{"Package: ", api.ErrName},
		{"Package: A", api.ErrName},
		{"Package: a ", api.ErrName},
		{"Package:  a", api.ErrName},
		{"Package: a (= 1)", api.ErrName},
		{"Package: a\n", api.ErrName},
		{"Package: " + longName, api.ErrName},

		{"Version: ", api.ErrVer},
		{"Version: x", api.ErrVer},
		{"Version: 1 ", api.ErrVer},
		{"Version: = 1", api.ErrVer},
		{"Version: 1-", api.ErrVer},
		{"Version: " + longVer, api.ErrLong},
		{"Version: " + longVer + "x", api.ErrLong},

		{"Depends: ", api.ErrForm},
		{"Depends: ; ", api.ErrForm},
		{"Depends: b; ", api.ErrForm},
		{"Depends: ; b", api.ErrForm},
		{"Depends: b; ; c", api.ErrForm},
		{"Depends: b;", api.ErrName},
		{"Depends: b;c", api.ErrName},
		{"Depends: b ; c", api.ErrForm},
		{"Depends: b;  c", api.ErrForm},
		{"Depends: b or ", api.ErrForm},
		{"Depends:  or b", api.ErrForm},
		{"Depends: or b", api.ErrForm},
		{"Depends: b or", api.ErrForm},
		{"Depends: b or  or c", api.ErrForm},
		{"Depends: b or or c", api.ErrForm},
		{"Depends: b or c or; d", api.ErrForm},
		{"Depends: b | c", api.ErrForm},
		{"Depends: b, c", api.ErrForm},
		{"Depends: b = 1", api.ErrForm},
		{"Depends: b (= 1", api.ErrForm},
		{"Depends: b (= 1) ", api.ErrForm},
		{"Depends: b (= 1 or = 2)", api.ErrForm},
		{"Depends: b (= 1; = 2)", api.ErrForm},
		{"Depends: B", api.ErrName},
		{"Depends: b; c or D", api.ErrName},
		{"Depends: b; c or d (= x); E", api.ErrVer},
		{"Depends: b; c or d (= x) or E", api.ErrVer},
		{"Depends: b; C or d (= x) or ", api.ErrName},
		{"Depends: b (= " + longVer + ")", api.ErrLong},
		{"Depends: b (= 1" + strings.Repeat(" | = 1", 16) + ")", api.ErrLong},
		{"Depends: " + named(17, "; "), api.ErrLong},
		{"Depends: B; " + named(16, "; "), api.ErrLong},
		{"Depends: " + named(16, "; ") + "; B", api.ErrLong},
		{"Depends: " + strings.Repeat("; ", 16), api.ErrLong},
		{"Depends: " + strings.Repeat("; ", 15), api.ErrForm},
		{"Depends: " + named(9, " or ") + strings.Repeat("; b", 16), api.ErrLong},
		{"Depends: " + named(9, " or "), api.ErrLong},
		{"Depends: B or " + named(8, " or "), api.ErrLong},
		{"Depends: b; " + named(9, " or ") + "; B", api.ErrLong},
		{"Depends: b; B; " + named(9, " or "), api.ErrName},
		{"Depends: " + strings.Repeat("? or ", 7), api.ErrName},
		{"Depends: " + strings.Repeat(" or ", 8), api.ErrLong},
		{"Depends: " + strings.Repeat(" or ", 7), api.ErrForm},

		{"Conflicts: ", api.ErrForm},
		{"Conflicts: b or c", api.ErrForm},
		{"Conflicts: b; ", api.ErrForm},
		{"Conflicts: b;c", api.ErrName},
		{"Conflicts: B", api.ErrName},
		{"Conflicts: b; c (= x); D", api.ErrVer},
		{"Conflicts: b; C; d (= x)", api.ErrName},
		{"Conflicts: b (~ 1)", api.ErrForm},
		{"Conflicts: b = 1", api.ErrForm},
		{"Conflicts: " + named(17, "; "), api.ErrLong},
		{"Conflicts: B; " + named(16, "; "), api.ErrLong},
		{"Conflicts: " + named(16, "; ") + "; ", api.ErrLong},
		{"Conflicts: " + strings.Repeat("; ", 15), api.ErrForm},

		{"Provides: ", api.ErrName},
		{"Provides: b; ", api.ErrName},
		{"Provides: b;c", api.ErrName},
		{"Provides: b (= 1)", api.ErrName},
		{"Provides: b or c", api.ErrName},
		{"Provides: b=1", api.ErrName},
		{"Provides: b =1", api.ErrName},
		{"Provides: b =", api.ErrName},
		{"Provides: b  = 1", api.ErrName},
		{"Provides:  = 1", api.ErrName},
		{"Provides: = 1", api.ErrName},
		{"Provides: " + longName + " = 1", api.ErrName},
		{"Provides: B = x", api.ErrName},
		{"Provides: B; b = x", api.ErrName},
		{"Provides: b = ", api.ErrVer},
		{"Provides: b =  1", api.ErrVer},
		{"Provides: b = x; B", api.ErrVer},
		{"Provides: b = 1 = 2", api.ErrVer},
		{"Provides: b = 1 ; c", api.ErrVer},
		{"Provides: b = = 1", api.ErrVer},
		{"Provides: b; c = 1; d = x", api.ErrVer},
		{"Provides: b = " + longVer, api.ErrLong},
		{"Provides: b = " + longVer + " = 1", api.ErrLong},
		{"Provides: " + named(17, "; "), api.ErrLong},
		{"Provides: B; " + named(16, "; "), api.ErrLong},
		{"Provides: " + strings.Repeat("; ", 16), api.ErrLong},
		{"Provides: " + strings.Repeat("; ", 15), api.ErrName},

		{"Weight: ", api.ErrForm},
		{"Weight: 1", api.ErrForm},
		{"Weight: 2p0", api.ErrForm},
		{"Weight: 00", api.ErrForm},
		{"Weight: +0", api.ErrForm},
		{"Weight: 1p0 ", api.ErrForm},
		{"Weight: -nan", api.ErrForm},
		{"Weight: 1p1024", api.ErrWeight},
		{"Weight: 1p-1075", api.ErrWeight},
		{"Weight: nan", api.ErrWeight},
	}
}

// put lays the field over the one of s with its key, or adds it behind s.
func put(s stanza.Stanza, field string) (stanza.Stanza, int) {
	f := row(field)[0]
	i := slices.IndexFunc(s, func(g stanza.Field) bool { return g.Key == f.Key })
	if i < 0 {
		return append(slices.Clone(s), f), len(s)
	}
	s = slices.Clone(s)
	s[i] = f
	return s, i
}

func TestP602FromOfWrongValues(t *testing.T) {
	small := row("Package: a", "Version: 1")
	whole := row("Package: a", "Version: 1", "Depends: b", "Conflicts: c", "Provides: d", "Weight: 1p0")
	for _, v := range wrongValues() {
		for _, s := range []stanza.Stanza{small, whole} {
			s, i := put(s, v.field)
			holdError(t, s, i, v.want)
		}
	}
}

// TestP602FromTellsTheFirstField spoils two fields of a stanza.
func TestP602FromTellsTheFirstField(t *testing.T) {
	all := wrongValues()
	whole := row("Package: a", "Version: 1", "Depends: b", "Conflicts: c", "Provides: d", "Weight: 1p0")
	for i, first := range all {
		for _, later := range all[i+1:] {
			s, _ := put(whole, later.field)
			s, at := put(s, first.field)
			if s[at].Value == whole[at].Value || slices.Equal(s, whole) {
				t.Fatalf("%q and %q spoil nothing", first.field, later.field)
			}
			if _, k := put(whole, later.field); k > at {
				holdError(t, s, at, first.want)
				holdError(t, append(slices.Clone(s), stanza.Field{Key: "Hash"}), len(s), api.ErrField)
				holdError(t, append(slices.Clone(s), s[len(s)-1]), len(s), api.ErrOrder)
			}
		}
	}
}

func TestP602FromAtTheLimits(t *testing.T) {
	for _, c := range []struct {
		field              string
		deps, atoms, gives int
	}{
		{"Depends: " + named(16, "; "), 16, 1, 0},
		{"Depends: " + named(8, " or "), 1, 8, 0},
		{"Depends: " + strings.Repeat(named(8, " or ")+"; ", 15) + named(8, " or "), 16, 8, 0},
		{"Conflicts: " + named(16, "; "), 0, 16, 0},
		{"Conflicts: b (= 1" + strings.Repeat(" | = 1", 15) + ")", 0, 1, 0},
		{"Provides: " + named(16, " = 1; "), 0, 0, 16},
		{"Provides: " + longName[1:] + " = " + longVer[1:], 0, 0, 1},
	} {
		p, at, err := pkg.From(row("Package: "+longName[1:], "Version: "+longVer[1:], c.field))
		if len(p.Depends) != c.deps || len(p.Provides) != c.gives || at != 0 || err != api.OK {
			t.Errorf("From with %.80s: %d Depends, %d Provides, %d, %v", c.field, len(p.Depends), len(p.Provides), at, err)
		}
		if n := len(slices.Concat(p.Depends...)) + len(p.Conflicts); n != max(c.deps, 1)*c.atoms {
			t.Errorf("From with %.80s: %d atoms", c.field, n)
		}
		if err := pkg.Check(p); err != api.OK {
			t.Errorf("Check of the package with %.80s: %v", c.field, err)
		}
	}
}

// randomPkg returns a package that Check accepts.
func randomPkg(t *testing.T, random *rand.Rand) pkg.Pkg {
	names := []string{"a", "b", "or", "or-or", "none", "x86", longName[1:]}
	versions := []string{"0", "1", "1.2", "3:1a0", "2-1", "1~1", longVer[1:]}
	pick := func(l []string) string { return l[random.Intn(len(l))] }
	atomAny := func() atom.Atom {
		signs := []string{"=", "!=", "<", "<=", ">", ">="}
		s := pick(names)
		switch random.Intn(4) {
		case 0:
			s += " (" + pick(signs) + " " + pick(versions) + ")"
		case 1:
			s += " (" + pick(signs) + " " + pick(versions) + pick([]string{" | ", " & "}) + pick(signs) + " " + pick(versions) + ")"
		case 2:
			s += pick([]string{"", " (none)"})
		}
		return parsed(t, s)
	}
	p := pkg.Pkg{Name: pick(names), Ver: pick(versions)}
	for range random.Intn(5) {
		var d pkg.Dep
		for range 1 + random.Intn(8) {
			d = append(d, atomAny())
		}
		p.Depends = append(p.Depends, d)
	}
	for range random.Intn(4) {
		p.Conflicts = append(p.Conflicts, atomAny())
	}
	for range random.Intn(4) {
		p.Provides = append(p.Provides, pkg.Give{pick(names), pick(append(versions, "", "", ""))})
	}
	weights := []float64{0, math.Copysign(0, -1), 1, -0.1, math.Inf(1), math.Inf(-1), math.MaxFloat64}
	p.Weight = weights[random.Intn(len(weights))]
	return p
}

// TestP602FromReadsWhatToWrites goes by way of the text of the stanza.
func TestP602FromReadsWhatToWrites(t *testing.T) {
	random := rand.New(rand.NewSource(602))
	for range 3000 {
		p := randomPkg(t, random)
		if err := pkg.Check(p); err != api.OK {
			t.Fatalf("Check(%v): %v", p, err)
		}
		s := pkg.To(p)
		if again, i, err := pkg.From(s); !pkg.Same(again, p) || i != 0 || err != api.OK {
			t.Fatalf("From(%v): %v, %d, %v; want %v", s, again, i, err, p)
		}
		read, line, err := stanza.Parse(stanza.Print([]stanza.Stanza{s}))
		if len(read) != 1 || line != 0 || err != api.OK {
			t.Fatalf("Parse of the stanza %v: %d, %v", s, line, err)
		}
		if again, _, _ := pkg.From(read[0]); !pkg.Same(again, p) {
			t.Fatalf("From(%v): %v; want %v", read[0], again, p)
		}
	}
}

// TestP602FromAgainstItsWords holds From against the words of P602, on stanzas
// of pieces that come near to what a field takes.
func TestP602FromAgainstItsWords(t *testing.T) {
	random := rand.New(rand.NewSource(6020))
	pieces := []string{"a", "b", "B", "1", "01", "x", "; ", "; ", ";", " or ", " or ", "or", " ", " = ", " = ", "=", " (= 1)", " (> 0:01 | = 2)", " (none)", "p", "-", "0", "inf", "nan", longVer, longName}
	keys := []string{"Package", "Version", "Depends", "Conflicts", "Provides", "Weight"}
	good := map[string]string{"Package": "a", "Version": "01", "Depends": "a or b; c", "Conflicts": "a", "Provides": "a = 01; b", "Weight": "-3p0"}
	told := map[api.Errno]int{}
	for range 60000 {
		var s stanza.Stanza
		for i, key := range keys {
			if i > 1 && random.Intn(2) == 0 || random.Intn(40) == 0 {
				continue
			}
			value := good[key]
			if random.Intn(3) == 0 {
				value = ""
				for range random.Intn(6) {
					value += pieces[random.Intn(len(pieces))]
				}
			}
			s = append(s, stanza.Field{Key: key, Value: value, Line: random.Intn(9)})
		}
		if len(s) > 1 && random.Intn(30) == 0 {
			s[random.Intn(len(s))].Key = keys[random.Intn(len(keys))]
		}
		want, at, wrong := fromByItsWords(s)
		p, i, err := pkg.From(s)
		if !pkg.Same(p, want) || i != at || err != wrong {
			t.Fatalf("From(%v): %v, %d, %v; want %v, %d, %v", s, p, i, err, want, at, wrong)
		}
		told[err]++
	}
	for _, err := range []api.Errno{api.OK, api.ErrForm, api.ErrName, api.ErrLong, api.ErrVer, api.ErrOrder, api.ErrWeight, api.ErrField} {
		if told[err] == 0 {
			t.Errorf("no stanza with the error %v", err)
		}
	}
}

func fromByItsWords(s stanza.Stanza) (pkg.Pkg, int, api.Errno) {
	if i, err := stanza.Order(s, []string{"Package", "Version", "Depends", "Conflicts", "Provides", "Weight"}); err != api.OK {
		return pkg.Pkg{}, i, err
	}
	if len(s) < 2 || s[0].Key != "Package" || s[1].Key != "Version" {
		return pkg.Pkg{}, 0, api.ErrField
	}
	var p pkg.Pkg
	for i, f := range s {
		if err := fieldByItsWords(&p, f.Key, f.Value); err != api.OK {
			return pkg.Pkg{}, i, err
		}
	}
	return p, 0, api.OK
}

func fieldByItsWords(p *pkg.Pkg, key, value string) (err api.Errno) {
	switch key {
	case "Package":
		p.Name = value
		if !atom.Name(value) {
			err = api.ErrName
		}
	case "Version":
		p.Ver, err = ver.Canon(value)
	case "Depends":
		p.Depends, err = listByItsWords(value, "; ", 16, func(part string) (pkg.Dep, api.Errno) {
			return listByItsWords(part, " or ", 8, atom.Parse)
		})
	case "Conflicts":
		p.Conflicts, err = listByItsWords(value, "; ", 16, atom.Parse)
	case "Provides":
		p.Provides, err = listByItsWords(value, "; ", 16, giveByItsWords)
	case "Weight":
		if p.Weight, err = weight.Parse(value); err == api.OK {
			err = weight.Check(p.Weight)
		}
	}
	return err
}

func giveByItsWords(part string) (pkg.Give, api.Errno) {
	words := strings.SplitN(part, " = ", 2)
	if !atom.Name(words[0]) {
		return pkg.Give{}, api.ErrName
	}
	if len(words) == 1 {
		return pkg.Give{Name: part}, api.OK
	}
	canon, err := ver.Canon(words[1])
	return pkg.Give{Name: words[0], Ver: canon}, err
}

func listByItsWords[E any](value, between string, most int, read func(string) (E, api.Errno)) ([]E, api.Errno) {
	if strings.Count(value, between) >= most {
		return nil, api.ErrLong
	}
	var l []E
	for _, part := range strings.Split(value, between) {
		e, err := read(part)
		if err != api.OK {
			return nil, err
		}
		l = append(l, e)
	}
	return l, api.OK
}

func TestP2FromLeavesItsStanza(t *testing.T) {
	for _, fields := range [][]string{
		lines(t, pkg.To(full(t))), {"Package: a"}, {"Package: A", "Version: 1"}, {"Package: a", "Version: 1", "Depends: b; B"},
	} {
		s := row(append(fields, "Spare: 1", "Spare: 2")...)
		before := slices.Clone(s)
		pkg.From(s[:len(fields)])
		if !slices.Equal(s, before) {
			t.Errorf("%v is now %v", before, s)
		}
	}
}

// stringsOf returns all strings of a package.
func stringsOf(p pkg.Pkg) []string {
	l := []string{p.Name, p.Ver}
	for _, a := range append(slices.Concat(p.Depends...), p.Conflicts...) {
		l = append(l, a.Name)
		for _, s := range a.Range {
			l = append(l, s.Lo, s.Hi)
		}
	}
	for _, g := range p.Provides {
		l = append(l, g.Name, g.Ver)
	}
	return l
}

func TestP2ResultsHoldNewStrings(t *testing.T) {
	one := pkg.Pkg{
		Name: strings.Clone("name"), Ver: strings.Clone("11"), Depends: []pkg.Dep{{{Name: strings.Clone("dep"), Range: rng.All()}}},
		Conflicts: []atom.Atom{{Name: strings.Clone("conflict"), Range: rng.All()}}, Provides: []pkg.Give{{strings.Clone("give"), ""}},
	}
	for _, p := range []pkg.Pkg{one, full(t)} {
		var written []string
		for _, f := range pkg.To(p) {
			written = append(written, f.Key, f.Value)
		}
		for _, d := range p.Depends {
			written = append(written, pkg.DepText(d))
		}
		holdApart(t, "To", written, stringsOf(p))
	}
	s := row("Package: name", "Version: 11", "Depends: dep; or (= 22) or on", "Conflicts: con (> 33)", "Provides: give; giving = 44", "Weight: inf")
	var values []string
	for i := range s {
		s[i].Value = strings.Clone(s[i].Value)
		values = append(values, s[i].Value)
	}
	p, _, err := pkg.From(s)
	if err != api.OK {
		t.Fatalf("From: %v", err)
	}
	holdApart(t, "From", stringsOf(p), values)
}

func holdApart(t *testing.T, name string, results, arguments []string) {
	t.Helper()
	for _, r := range results {
		for _, a := range arguments {
			if isIn(r, a) {
				t.Errorf("%s: %q lies in the memory of %q", name, r, a)
			}
		}
	}
}

// spill writes all over a slice and what lies behind it.
func spill[E any](l []E, over E) {
	l = l[:cap(l)]
	for i := range l {
		l[i] = over
	}
}

func TestP2ResultsAreNewMemory(t *testing.T) {
	s := row("Package: a", "Version: 1", "Depends: b or c or d; e; f or g; b", "Conflicts: h; i; h", "Provides: j; k; l = 1")
	want, _, _ := pkg.From(s)
	odd := atom.Atom{Name: "spilt"}
	for k, do := range []func(p *pkg.Pkg){
		func(p *pkg.Pkg) { spill(p.Depends[0], odd); p.Depends[0] = want.Depends[0] },
		func(p *pkg.Pkg) { spill(p.Depends[1], odd); p.Depends[1] = want.Depends[1] },
		func(p *pkg.Pkg) { spill(p.Depends[2], odd); p.Depends[2] = want.Depends[2] },
		func(p *pkg.Pkg) { spill(p.Depends[0][0].Range, rng.Span{Lo: "1"}); p.Depends[0][0].Range = rng.All() },
		func(p *pkg.Pkg) { spill(p.Conflicts[0].Range, rng.Span{Lo: "1"}); p.Conflicts[0].Range = rng.All() },
		func(p *pkg.Pkg) { spill(p.Depends, pkg.Dep{odd}); p.Depends = want.Depends },
		func(p *pkg.Pkg) { spill(p.Conflicts, odd); p.Conflicts = want.Conflicts },
		func(p *pkg.Pkg) { spill(p.Provides, pkg.Give{"spilt", ""}); p.Provides = want.Provides },
	} {
		p, _, _ := pkg.From(s)
		again, _, _ := pkg.From(s)
		do(&p)
		if !pkg.Same(p, want) || !pkg.Same(again, want) {
			t.Errorf("%d: lists of one result or of two share memory", k)
		}
	}
	first, again := pkg.To(full(t)), pkg.To(full(t))
	spill(first, stanza.Field{Key: "spilt"})
	if p, _, err := pkg.From(again); err != api.OK || !pkg.Same(p, full(t)) {
		t.Error("two results of To share memory")
	}
}

func TestP3FromAgain(t *testing.T) {
	for range 3 {
		holdError(t, row("Package: a", "Version: 1", "Depends: b; B"), 2, api.ErrName)
		if p, i, err := pkg.From(pkg.To(full(t))); !pkg.Same(p, full(t)) || i != 0 || err != api.OK {
			t.Errorf("From: %v, %d, %v", p, i, err)
		}
	}
}

func TestP1AnyStanzas(t *testing.T) {
	texts := []string{"", "a", "; ", " or ", " = ", "\xff", "\n", "é", "1p0", strings.Repeat("; ", 1<<16), strings.Repeat(" or ", 1<<16), strings.Repeat("1", 1<<16)}
	keys := []string{"", "Package", "Version", "Depends", "Conflicts", "Provides", "Weight", "\xff"}
	for _, key := range keys {
		for _, text := range texts {
			f := stanza.Field{Key: key, Value: text, Line: -1}
			for _, s := range []stanza.Stanza{{f}, {f, f}, append(row("Package: a", "Version: 1"), f), {{Key: "Package", Value: text}, {Key: "Version", Value: text}, f}} {
				want, at, wrong := fromByItsWords(s)
				if p, i, err := pkg.From(s); !pkg.Same(p, want) || i != at || err != wrong {
					t.Fatalf("From(%.80v): %d, %v; want %d, %v", s, i, err, at, wrong)
				}
			}
		}
	}
	holdError(t, make(stanza.Stanza, 1<<16), 0, api.ErrField)
}
