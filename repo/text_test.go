package repo_test

import (
	"math"
	"math/rand"
	"slices"
	"strconv"
	"strings"
	"testing"

	"manciple/api"
	"manciple/atom"
	"manciple/pkg"
	"manciple/repo"
	"manciple/stanza"
	"manciple/ver"
)

// holdParse tells whether a text is read as those packages.
func holdParse(t *testing.T, s string, want repo.Repo) {
	t.Helper()
	if r, line, err := repo.Parse(s); !repo.Same(r, want) || line != 0 || err != api.OK {
		t.Errorf("Parse(%.400q): %s, %d, %v; want %s", s, shown(r), line, err, shown(want))
	}
}

// holdParseError tells whether Parse answers the error and its line and no
// packages.
func holdParseError(t *testing.T, s string, line int, want api.Errno) {
	t.Helper()
	if r, i, err := repo.Parse(s); len(r) != 0 || i != line || err != want {
		t.Errorf("Parse(%.400q): %d packages, %d, %v; want %d, %v", s, len(r), i, err, line, want)
	}
}

// holdPrint tells whether packages are written as that text and read again.
func holdPrint(t *testing.T, r repo.Repo, want string) {
	t.Helper()
	if s, err := repo.Print(r); s != want || err != api.OK {
		t.Errorf("Print(%s): %.400q, %v; want %.400q", shown(r), s, err, want)
	}
	holdParse(t, want, r)
}

// joined returns the text of stanzas that are written without their last line
// end.
func joined(stanzas ...string) string { return strings.Join(stanzas, "\n\n") + "\n" }

// exampleStanzas are the texts of the packages of example.
func exampleStanzas() []string {
	return []string{
		"Package: a\nVersion: 1~1",
		"Package: a\nVersion: 1\nDepends: b (>= 1.10) or v (= 7); c",
		"Package: a\nVersion: 2\nConflicts: a (< 2); c (none)",
		"Package: b\nVersion: 1.9\nWeight: -3p-1",
		"Package: b\nVersion: 1.10\nProvides: a = 7; v = 7; w",
		"Package: c\nVersion: 0",
	}
}

func TestP701Print(t *testing.T) {
	holdPrint(t, nil, "")
	holdPrint(t, repo.Repo{}, "")
	holdPrint(t, bare("a 1"), "Package: a\nVersion: 1\n")
	holdPrint(t, example(t), joined(exampleStanzas()...))
	var stanzas []string
	for i := range api.MaxPkgs {
		stanzas = append(stanzas, "Package: p"+strconv.Itoa(100+i)+"\nVersion: 1")
	}
	holdPrint(t, numbered(api.MaxPkgs), joined(stanzas...))
}

func TestP701PrintRefuses(t *testing.T) {
	nameless := example(t)
	nameless[3].Name = ""
	heavy := example(t)
	heavy[5].Weight = math.NaN()
	for i, c := range []struct {
		r    repo.Repo
		want api.Errno
	}{
		{nameless, api.ErrName},
		{heavy, api.ErrWeight},
		{bare("a 01"), api.ErrVer},
		{bare("a 1", "a 1"), api.ErrTwice},
		{bare("a 2", "a 1"), api.ErrOrder},
		{bare("b 1", "a 1"), api.ErrOrder},
		{make(repo.Repo, 1), api.ErrName},
		{numbered(api.MaxPkgs + 1), api.ErrLong},
	} {
		if s, err := repo.Print(c.r); s != "" || err != c.want {
			t.Errorf("%d: Print: %q, %v; want %v", i, s, err, c.want)
		}
	}
}

// sized returns a repository with a text of n bytes, by the lengths of the
// names that its packages depend on.
func sized(t *testing.T, n int) repo.Repo {
	t.Helper()
	r := numbered(api.MaxPkgs)
	for i := range r {
		for range api.MaxDeps {
			r[i].Depends = append(r[i].Depends, slices.Repeat(atoms(t, "x"), api.MaxAtoms))
		}
	}
	missing := n - len(stanza.Print(stanzasOf(r)))
	for i := range r {
		for _, d := range r[i].Depends {
			for k := range d {
				more := min(missing, api.MaxName-len(d[k].Name))
				d[k].Name += strings.Repeat("x", more)
				missing -= more
			}
		}
	}
	if missing != 0 {
		t.Fatalf("%d bytes are missing of %d", missing, n)
	}
	return r
}

func stanzasOf(r repo.Repo) []stanza.Stanza {
	var l []stanza.Stanza
	for _, p := range r {
		l = append(l, pkg.To(p))
	}
	return l
}

func TestP701PrintOfLongTexts(t *testing.T) {
	for n := api.MaxText - 2; n <= api.MaxText; n++ {
		r := sized(t, n)
		s, err := repo.Print(r)
		if len(s) != n || err != api.OK {
			t.Errorf("Print of %d bytes: %d, %v", n, len(s), err)
		}
		holdParse(t, s, r)
	}
	for _, n := range []int{api.MaxText + 1, api.MaxText + 2, 2 * api.MaxText} {
		r := sized(t, n)
		holdCheck(t, r, 0, api.OK)
		if s, err := repo.Print(r); s != "" || err != api.ErrLong {
			t.Errorf("Print of %d bytes: %d, %v", n, len(s), err)
		}
		// the error of Check comes first
		r[63].Weight = math.NaN()
		if s, err := repo.Print(r); s != "" || err != api.ErrWeight {
			t.Errorf("Print of %d bytes and a weight that is none: %d, %v", n, len(s), err)
		}
	}
}

func TestP701ParseSorts(t *testing.T) {
	stanzas := exampleStanzas()
	want := example(t)
	order := []int{0, 1, 2, 3, 4, 5}
	permute(order, func() {
		var l []string
		for _, i := range order {
			l = append(l, stanzas[i])
		}
		holdParse(t, joined(l...), want)
	})
	holdParse(t, joined("Package: b\nVersion: 0", "Package: a\nVersion: 10", "Package: a\nVersion: 9"), bare("a 9", "a 10", "b 0"))
	holdParse(t, joined("Package: a\nVersion: 1:0", "Package: a\nVersion: 9", "Package: a\nVersion: 9~9"), bare("a 9~9", "a 9", "a 1:0"))
	holdParse(t, joined("Package: aa\nVersion: 1", "Package: a0\nVersion: 2", "Package: a-\nVersion: 3", "Package: a\nVersion: 4"), bare("a 4", "a- 3", "a0 2", "aa 1"))
	holdParse(t, joined("Package: a2\nVersion: 1", "Package: a10\nVersion: 1"), bare("a10 1", "a2 1"))
}

// permute does something for every order of l.
func permute(l []int, do func()) {
	var from func(k int)
	from = func(k int) {
		if k == len(l) {
			do()
		}
		for i := k; i < len(l); i++ {
			l[k], l[i] = l[i], l[k]
			from(k + 1)
			l[k], l[i] = l[i], l[k]
		}
	}
	from(0)
}

func TestP701ParseBringsIntoForm(t *testing.T) {
	r := bare("a 1", "b 10")
	r[1].Depends = []pkg.Dep{atoms(t, "a (< 1 | > 1)")}
	r[1].Conflicts = atoms(t, "a (none)")
	r[1].Provides = []pkg.Give{{Name: "v", Ver: "2"}}
	written := joined("Package: b\nVersion: 010-0\nDepends: a (!= 01)\nConflicts: a (< 1 & > 1)\nProvides: v = 0:2\nWeight: 0", "Package: a\nVersion: 000:1")
	holdParse(t, written, r)
	again := joined("Package: a\nVersion: 1", "Package: b\nVersion: 10\nDepends: a (< 1 | > 1)\nConflicts: a (none)\nProvides: v = 2")
	holdPrint(t, r, again)
}

func TestP701ParseRefuses(t *testing.T) {
	for _, c := range []struct {
		s    string
		line int
		want api.Errno
	}{
		// stanza.Parse
		{"x", 0, api.ErrForm},
		{"\n", 0, api.ErrForm},
		{"Package: a\nVersion: 1", 0, api.ErrForm},
		{"Package: a\nVersion: 1\n\n", 2, api.ErrForm},
		{"Package: a\nVersion: 1\n\n\nPackage: b\nVersion: 1\n", 3, api.ErrForm},
		{"Package: a\nVersion:1\n", 1, api.ErrForm},
		{"Package: a\nVersion: 1\nVersion: 1\n", 2, api.ErrTwice},
		{"Package: a\nVersion: 1\n\nPackage: b\nVersion: 1\nPackage: b\n", 5, api.ErrTwice},
		{strings.Repeat("\n", api.MaxText+1), 0, api.ErrLong},
		{"Package: a\nVersion: 1\nDepends: " + strings.Repeat("x", api.MaxText) + "\n", 0, api.ErrLong},
		// pkg.From, in the first stanza
		{"Package: a\n", 0, api.ErrField},
		{"Version: 1\n", 0, api.ErrField},
		{"Package: a\nDepends: b\n", 0, api.ErrField},
		{"Foo: a\n", 0, api.ErrField},
		{"Package: a\nVersion: 1\nFoo: 2\n", 2, api.ErrField},
		{"Package: a\nVersion: 1\nWeight: 0\nFoo: 2\n", 3, api.ErrField},
		{"Version: 1\nPackage: a\n", 1, api.ErrOrder},
		{"Package: a\nVersion: 1\nWeight: 0\nDepends: b\n", 3, api.ErrOrder},
		{"Package: A\nVersion: 1\n", 0, api.ErrName},
		{"Package: A\nVersion: x\n", 0, api.ErrName},
		{"Package: a\nVersion: x\n", 1, api.ErrVer},
		{"Package: a\nVersion: \n", 1, api.ErrVer},
		{"Package: a\nVersion: " + longVer + "\n", 1, api.ErrLong},
		{"Package: a\nVersion: 1\nDepends: \n", 2, api.ErrForm},
		{"Package: a\nVersion: 1\nDepends: b; B\n", 2, api.ErrName},
		{"Package: a\nVersion: 1\nDepends: b or c (= x)\nConflicts: B\n", 2, api.ErrVer},
		{"Package: a\nVersion: 1\nDepends: b\nConflicts: B\n", 3, api.ErrName},
		{"Package: a\nVersion: 1\nDepends: b\nProvides: b = x\n", 3, api.ErrVer},
		{"Package: a\nVersion: 1\nDepends: b\nConflicts: b\nProvides: b\nWeight: x\n", 5, api.ErrForm},
		{"Package: a\nVersion: 1\nWeight: nan\n", 2, api.ErrWeight},
		// and in a later one, of which the line is counted from the text's begin
		{joined("Package: a\nVersion: 1", "Package: b"), 3, api.ErrField},
		{joined("Package: a\nVersion: 1", "Version: 1"), 3, api.ErrField},
		{joined("Package: a\nVersion: 1", "Version: 1\nPackage: a"), 4, api.ErrOrder},
		{joined("Package: a\nVersion: 1\nWeight: 1p0", "Package: B\nVersion: 1"), 4, api.ErrName},
		{joined("Package: a\nVersion: 1\nWeight: 1p0", "Package: b\nVersion: x"), 5, api.ErrVer},
		{joined("Package: a\nVersion: 1", "Package: b\nVersion: 1", "Package: c\nVersion: 1\nWeight: nan"), 8, api.ErrWeight},
		// the first stanza that is wrong decides, in the order of the text
		{joined("Package: b\nVersion: x", "Package: a\nVersion: 1\nWeight: nan"), 1, api.ErrVer},
		{joined("Package: b\nVersion: 1\nWeight: nan", "Package: A\nVersion: x"), 2, api.ErrWeight},
		{joined("Package: b\nVersion: x", "Package: a\nVersion: 1", "Package: a\nVersion: 1"), 1, api.ErrVer},
		{joined("Package: a\nVersion: 1", "Package: a\nVersion: 1", "Package: b\nVersion: x"), 3, api.ErrTwice},
		// what is wrong with the text's form comes ahead of its stanzas
		{"Package: A\nVersion: 1\nx\n", 2, api.ErrForm},
		{"Package: A\nVersion: 1\n\n", 2, api.ErrForm},
		{"Package: a\nVersion: x", 0, api.ErrForm},
		{joined("Package: a\nVersion: 1", "Package: a\nVersion: 1", "Foo: \nFoo: "), 7, api.ErrTwice},
	} {
		holdParseError(t, c.s, c.line, c.want)
	}
}

func TestP701ParseOfAPackageTwice(t *testing.T) {
	for _, c := range []struct {
		stanzas []string
		line    int
	}{
		{[]string{"Package: a\nVersion: 1", "Package: a\nVersion: 1"}, 3},
		{[]string{"Package: a\nVersion: 1", "Package: a\nVersion: 0:01-0"}, 3},
		{[]string{"Package: a\nVersion: 1-00", "Package: a\nVersion: 1"}, 3},
		{[]string{"Package: a\nVersion: 1", "Package: a\nVersion: 1\nWeight: 1p0"}, 3},
		{[]string{"Package: a\nVersion: 1\nDepends: b\nWeight: 1p0", "Package: a\nVersion: 1"}, 5},
		{[]string{"Package: a\nVersion: 1", "Package: b\nVersion: 1", "Package: a\nVersion: 1"}, 6},
		{[]string{"Package: b\nVersion: 1", "Package: a\nVersion: 1", "Package: b\nVersion: 1"}, 6},
		{[]string{"Package: a\nVersion: 2", "Package: a\nVersion: 1", "Package: a\nVersion: 3", "Package: a\nVersion: 2"}, 9},
		{[]string{"Package: a\nVersion: 1", "Package: b\nVersion: 1", "Package: b\nVersion: 1", "Package: a\nVersion: 1"}, 6},
	} {
		holdParseError(t, joined(c.stanzas...), c.line, api.ErrTwice)
	}
	// another error of the same stanza comes first, one of a later stanza does not
	holdParseError(t, joined("Package: a\nVersion: 1", "Package: a\nVersion: 1\nWeight: x"), 5, api.ErrForm)
	holdParseError(t, joined("Package: a\nVersion: 1", "Package: a\nVersion: 1", "Package: A\nVersion: 1"), 3, api.ErrTwice)
	holdParse(t, joined("Package: a\nVersion: 1", "Package: b\nVersion: 1", "Package: a\nVersion: 2"), bare("a 1", "a 2", "b 1"))
	holdParse(t, joined("Package: a\nVersion: 1", "Package: a\nVersion: 1-1"), bare("a 1", "a 1-1"))
}

func TestP701ParseOfTooMany(t *testing.T) {
	var stanzas []string
	for i := range api.MaxPkgs {
		stanzas = append(stanzas, "Package: p"+strconv.Itoa(100+i)+"\nVersion: 1")
	}
	holdParse(t, joined(stanzas...), numbered(api.MaxPkgs))
	more := func(s string) []string { return append(slices.Clone(stanzas), s) }
	for _, s := range []string{"Package: a\nVersion: 1", "Package: p100\nVersion: 1", "Package: A\nVersion: 1", "Foo: "} {
		holdParseError(t, joined(more(s)...), 0, api.ErrLong)
		holdParseError(t, joined(append([]string{s}, stanzas...)...), 0, api.ErrLong)
		holdParseError(t, joined(append(more(s), more(s)...)...), 0, api.ErrLong)
	}
	// what stanza.Parse refuses comes first
	holdParseError(t, joined(more("x")...), 3*api.MaxPkgs, api.ErrForm)
	holdParseError(t, joined(more("A: \nA: ")...), 3*api.MaxPkgs+1, api.ErrTwice)
	holdParseError(t, joined(more("Package: a\nVersion: 1")...)+"\n", 3*api.MaxPkgs+2, api.ErrForm)
	holdParseError(t, strings.Repeat("A: \n\n", api.MaxText/5)[:api.MaxText/5*5-1], 0, api.ErrLong)
	// and the last of as many as may be is looked at
	holdParseError(t, joined(append(stanzas[:api.MaxPkgs-1:api.MaxPkgs-1], "Package: p162\nVersion: 1")...), 3*(api.MaxPkgs-1), api.ErrTwice)
	holdParseError(t, joined(append(stanzas[:api.MaxPkgs-1:api.MaxPkgs-1], "Package: p163\nVersion: x")...), 3*(api.MaxPkgs-1)+1, api.ErrVer)
}

// parseByItsWords does what P701 says of Parse, word by word.
func parseByItsWords(s string) (repo.Repo, int, api.Errno) {
	l, line, err := stanza.Parse(s)
	if err != api.OK {
		return nil, line, err
	}
	if len(l) > 64 {
		return nil, 0, api.ErrLong
	}
	var r repo.Repo
	for _, one := range l {
		p, i, err := pkg.From(one)
		if err != api.OK {
			return nil, one[i].Line, err
		}
		for _, q := range r {
			if p.Name == q.Name && p.Ver == q.Ver {
				return nil, one[0].Line, api.ErrTwice
			}
		}
		r = append(r, p)
	}
	for range r {
		for i := 1; i < len(r); i++ {
			if r[i].Name < r[i-1].Name || r[i].Name == r[i-1].Name && ver.Compare(r[i].Ver, r[i-1].Ver) < 0 {
				r[i], r[i-1] = r[i-1], r[i]
			}
		}
	}
	return r, 0, api.OK
}

// anyText strings together stanzas that mostly fit.
func anyText(random *rand.Rand) string {
	pick := func(l ...string) string { return l[random.Intn(len(l))] }
	var stanzas []string
	for range random.Intn(7) {
		s := "Package: " + pick("a", "b", "ab", "a-b") + "\nVersion: " + pick("0", "00", "0-0", "1", "01", "1~1", "9", "10", "1:0")
		s += pick("", "", "", "\nDepends: a or b; c")
		s += pick("", "", "", "\nWeight: -3p0", "\nProvides: a = 01; b")
		if random.Intn(12) == 0 {
			s = pick("Package: a", "Version: 1\nPackage: a", "Package: A\nVersion: 1", s+"\nFoo: ", s+"\nWeight: nan", s+"\nx", s+"\n", s+"\nWeight: 0\nWeight: 0", "Package: a\nVersion: x")
		}
		stanzas = append(stanzas, s)
	}
	if len(stanzas) == 0 {
		return ""
	}
	return joined(stanzas...)
}

func TestP701ParseAgainstItsWords(t *testing.T) {
	random := rand.New(rand.NewSource(7010))
	told := map[api.Errno]int{}
	for range 30000 {
		s := anyText(random)
		want, line, wrong := parseByItsWords(s)
		r, i, err := repo.Parse(s)
		if !repo.Same(r, want) || i != line || err != wrong {
			t.Fatalf("Parse(%q): %s, %d, %v; want %s, %d, %v", s, shown(r), i, err, shown(want), line, wrong)
		}
		told[err]++
		if err != api.OK {
			continue
		}
		holdCheck(t, r, 0, api.OK)
		printed, err := repo.Print(r)
		if err != api.OK {
			t.Fatalf("Print of the packages of %q: %v", s, err)
		}
		holdParse(t, printed, r)
	}
	for _, err := range []api.Errno{api.OK, api.ErrForm, api.ErrName, api.ErrVer, api.ErrTwice, api.ErrOrder, api.ErrWeight, api.ErrField} {
		if told[err] < 100 {
			t.Errorf("%v came up %d times only", err, told[err])
		}
	}
}

// TestP701ParseReadsWhatPrintWrites takes packages with all kinds of fields.
func TestP701ParseReadsWhatPrintWrites(t *testing.T) {
	random := rand.New(rand.NewSource(7011))
	l := atoms(t, "a", "or", "none", "b (none)", "a (= 1)", "a (!= 1:0~1)", "c (< 1 | >= 2 & <= 3 | > 9)", longName[1:]+" (= "+longVer[1:]+")")
	some := func(most int) []atom.Atom {
		var s []atom.Atom
		for range random.Intn(most + 1) {
			s = append(s, l[random.Intn(len(l))])
		}
		return s
	}
	weights := []float64{0, math.Copysign(0, -1), 1, -0.1, math.Inf(1), math.Inf(-1), math.SmallestNonzeroFloat64}
	for range 2000 {
		r := bare("a 0~1", "a 0", "a 0-1", longName[1:]+" "+longVer[1:], "or 1", "or 1:1", "z 9")
		for i := range r {
			for range random.Intn(4) {
				r[i].Depends = append(r[i].Depends, append(some(api.MaxAtoms-1), l[0]))
			}
			r[i].Conflicts = some(3)
			for _, a := range some(3) {
				r[i].Provides = append(r[i].Provides, pkg.Give{Name: a.Name, Ver: []string{"", "0", "1:2-3"}[random.Intn(3)]})
			}
			r[i].Weight = weights[random.Intn(len(weights))]
		}
		s, err := repo.Print(r)
		if err != api.OK || s != stanza.Print(stanzasOf(r)) {
			t.Fatalf("Print(%s): %.400q, %v", shown(r), s, err)
		}
		holdParse(t, s, r)
	}
}

// stringsOf returns all strings of a repository.
func stringsOf(r repo.Repo) []string {
	var l []string
	for _, p := range r {
		l = append(l, p.Name, p.Ver)
		for _, a := range append(slices.Concat(p.Depends...), p.Conflicts...) {
			l = append(l, a.Name)
			for _, s := range a.Range {
				l = append(l, s.Lo, s.Hi)
			}
		}
		for _, g := range p.Provides {
			l = append(l, g.Name, g.Ver)
		}
	}
	return l
}

func TestP2TextsAreNewMemory(t *testing.T) {
	s := strings.Clone(joined(exampleStanzas()...))
	r, _, _ := repo.Parse(s)
	for _, v := range stringsOf(r) {
		if isIn(v, s) {
			t.Errorf("%q lies in the text", v)
		}
	}
	text, _ := repo.Print(r)
	for _, v := range stringsOf(r) {
		if isIn(text, v) {
			t.Errorf("the text lies in the memory of %q", v)
		}
	}
}

// TestP2ParseSharesNothing writes all over the lists of one package of a result
// and looks at what the others are then.
func TestP2ParseSharesNothing(t *testing.T) {
	one := "\nDepends: b; c or d\nConflicts: b (= 1); c\nProvides: b; c = 1"
	s := joined("Package: c\nVersion: 1"+one, "Package: a\nVersion: 1"+one, "Package: b\nVersion: 1"+one, "Package: b\nVersion: 0"+one)
	want, _, err := repo.Parse(s)
	if err != api.OK {
		t.Fatal(err)
	}
	odd := atom.Atom{Name: "spilt"}
	for i := range want {
		r, _, _ := repo.Parse(s)
		again, _, _ := repo.Parse(s)
		for _, d := range r[i].Depends {
			spill(d, odd)
		}
		spill(r[i].Depends, pkg.Dep{odd})
		spill(r[i].Conflicts, odd)
		spill(r[i].Provides, pkg.Give{Name: "spilt"})
		r[i] = want[i]
		if !repo.Same(r, want) || !repo.Same(again, want) {
			t.Errorf("the lists of package %d share memory with others", i)
		}
		spill(r, pkg.Pkg{Name: "spilt"})
		if !repo.Same(again, want) {
			t.Error("two results share memory")
		}
	}
}

func TestP3ParseAgain(t *testing.T) {
	for range 3 {
		holdParseError(t, joined("Package: a\nVersion: 1", "Package: a\nVersion: 1"), 3, api.ErrTwice)
		holdPrint(t, example(t), joined(exampleStanzas()...))
	}
}

func TestP1AnyTexts(t *testing.T) {
	pieces := []string{"", "\n", "\n\n", "Package: a\nVersion: 1\n", "Package: ", "Version: 1\n", "\xff", "é: 1\n", "A: \n", "Depends: " + strings.Repeat("; ", 1<<10) + "\n", strings.Repeat("A: \n\n", 1<<15)}
	for _, a := range pieces {
		for _, b := range pieces {
			for _, c := range pieces {
				s := a + b + c
				want, line, wrong := parseByItsWords(s)
				if r, i, err := repo.Parse(s); !repo.Same(r, want) || i != line || err != wrong {
					t.Fatalf("Parse(%.200q): %d, %v; want %d, %v", s, i, err, line, wrong)
				}
			}
		}
	}
}
