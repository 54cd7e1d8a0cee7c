package repo_test

import (
	"fmt"
	"math"
	"math/rand"
	"slices"
	"strconv"
	"strings"
	"testing"
	"unsafe"

	"manciple/api"
	"manciple/atom"
	"manciple/pkg"
	"manciple/repo"
	"manciple/rng"
	"manciple/ver"
)

var (
	longName = strings.Repeat("n", api.MaxName+1)
	longVer  = strings.Repeat("1", api.MaxVer+1)
)

func parsed(t *testing.T, s string) atom.Atom {
	t.Helper()
	a, err := atom.Parse(s)
	if err != api.OK {
		t.Fatalf("Parse(%q): %v", s, err)
	}
	return a
}

// atoms returns the atoms with those texts.
func atoms(t *testing.T, texts ...string) []atom.Atom {
	t.Helper()
	var l []atom.Atom
	for _, s := range texts {
		l = append(l, parsed(t, s))
	}
	return l
}

// bare returns packages by their names and versions, each written "NAME VER".
func bare(packages ...string) repo.Repo {
	var r repo.Repo
	for _, s := range packages {
		name, v, _ := strings.Cut(s, " ")
		r = append(r, pkg.Pkg{Name: name, Ver: v})
	}
	return r
}

// example returns a repository with something in each kind of field.
func example(t *testing.T) repo.Repo {
	t.Helper()
	r := bare("a 1~1", "a 1", "a 2", "b 1.9", "b 1.10", "c 0")
	r[1].Depends = []pkg.Dep{atoms(t, "b (>= 1.10)", "v (= 7)"), atoms(t, "c")}
	r[2].Conflicts = atoms(t, "a (< 2)", "c (none)")
	r[3].Weight = -1.5
	r[4].Provides = []pkg.Give{{Name: "a", Ver: "7"}, {Name: "v", Ver: "7"}, {Name: "w"}}
	return r
}

// numbered returns n packages that stand in order.
func numbered(n int) repo.Repo {
	var r repo.Repo
	for i := range n {
		r = append(r, pkg.Pkg{Name: "p" + strconv.Itoa(100+i), Ver: "1"})
	}
	return r
}

// twin returns a copy that shares no memory with r.
func twin(r repo.Repo) repo.Repo {
	r = slices.Clone(r)
	for i := range r {
		r[i].Name, r[i].Ver = strings.Clone(r[i].Name), strings.Clone(r[i].Ver)
		r[i].Depends = slices.Clone(r[i].Depends)
		for k := range r[i].Depends {
			r[i].Depends[k] = twinAtoms(r[i].Depends[k])
		}
		r[i].Conflicts = twinAtoms(r[i].Conflicts)
		r[i].Provides = slices.Clone(r[i].Provides)
	}
	return r
}

func twinAtoms(l []atom.Atom) []atom.Atom {
	l = slices.Clone(l)
	for i := range l {
		l[i].Range = slices.Clone(l[i].Range)
	}
	return l
}

// shown writes as much of a repository as a message can bear.
func shown(r repo.Repo) string { return fmt.Sprintf("%.400s", fmt.Sprint(r)) }

func holdCheck(t *testing.T, r repo.Repo, index int, want api.Errno) {
	t.Helper()
	if i, err := repo.Check(r); i != index || err != want {
		t.Errorf("Check(%s): %d, %v; want %d, %v", shown(r), i, err, index, want)
	}
}

func TestP701CheckAccepts(t *testing.T) {
	holdCheck(t, nil, 0, api.OK)
	holdCheck(t, repo.Repo{}, 0, api.OK)
	holdCheck(t, example(t), 0, api.OK)
	holdCheck(t, bare("a 0"), 0, api.OK)
	holdCheck(t, numbered(api.MaxPkgs), 0, api.OK)
	// versions by ver.Compare
	holdCheck(t, bare("a 0~1", "a 0", "a 0-1", "a 0a0", "a 0+0", "a 0.0", "a 9", "a 10", "a 1:0", "a 9:0", "a 10:0"), 0, api.OK)
	// names by bytes, ahead of versions
	holdCheck(t, bare("a 9", "a- 8", "a-- 7", "a0 6", "a1 5", "a10 4", "a2 3", "aa 2", "b 1", longName[1:]+" 0", "z 0"), 0, api.OK)
	holdCheck(t, bare("a 1:0", "a0 0", "b 1:0", "b0 0"), 0, api.OK)
}

func TestP701CheckRefusesTheOrder(t *testing.T) {
	for _, c := range []struct {
		packages []string
		index    int
		want     api.Errno
	}{
		{[]string{"a 1", "a 1"}, 1, api.ErrTwice},
		{[]string{"a 1", "a 2", "a 2"}, 2, api.ErrTwice},
		{[]string{"a 1", "a 1", "a 1"}, 1, api.ErrTwice},
		{[]string{"a 1", "b 1", "b 1", "a 1"}, 2, api.ErrTwice},
		{[]string{"a 1", "a 1", "a 0"}, 1, api.ErrTwice},
		{[]string{"a 2", "a 1"}, 1, api.ErrOrder},
		{[]string{"a 10", "a 9"}, 1, api.ErrOrder},
		{[]string{"a 1", "a 1~1"}, 1, api.ErrOrder},
		{[]string{"a 0.0", "a 0+0"}, 1, api.ErrOrder},
		{[]string{"a 1:0", "a 9"}, 1, api.ErrOrder},
		{[]string{"b 1", "a 1"}, 1, api.ErrOrder},
		{[]string{"b 1", "a 2"}, 1, api.ErrOrder},
		{[]string{"a2 1", "a10 1"}, 1, api.ErrOrder},
		{[]string{"aa 1", "a0 1"}, 1, api.ErrOrder},
		{[]string{"a0 1", "a- 1"}, 1, api.ErrOrder},
		{[]string{"ab 1", "a 2"}, 1, api.ErrOrder},
		{[]string{"a 1", "b 1", "c 1", "b 2"}, 3, api.ErrOrder},
		{[]string{"a 1", "a 2", "a 1", "a 1"}, 2, api.ErrOrder},
		// only the package before is asked
		{[]string{"a 1", "b 1", "a 1"}, 2, api.ErrOrder},
		{[]string{"a 1", "a 2", "a 1"}, 2, api.ErrOrder},
	} {
		holdCheck(t, bare(c.packages...), c.index, c.want)
	}
}

// spoilings do something to a package, by which pkg.Check comes to that error.
func spoilings(t *testing.T) map[api.Errno]func(p *pkg.Pkg) {
	return map[api.Errno]func(p *pkg.Pkg){
		api.ErrName:   func(p *pkg.Pkg) { p.Provides = []pkg.Give{{Name: "B"}} },
		api.ErrVer:    func(p *pkg.Pkg) { p.Provides = []pkg.Give{{Name: "b", Ver: "01"}} },
		api.ErrLong:   func(p *pkg.Pkg) { p.Depends = []pkg.Dep{{}} },
		api.ErrArg:    func(p *pkg.Pkg) { p.Conflicts = []atom.Atom{{Name: "b", Range: rng.Range{{LoIn: true}}}} },
		api.ErrOrder:  func(p *pkg.Pkg) { p.Conflicts = []atom.Atom{{Name: "b", Range: rng.Range{{}, {}}}} },
		api.ErrWeight: func(p *pkg.Pkg) { p.Weight = math.NaN() },
	}
}

func TestP701CheckRefusesAPackage(t *testing.T) {
	for want, spoil := range spoilings(t) {
		for at := range example(t) {
			r := example(t)
			spoil(&r[at])
			holdCheck(t, r, at, want)
			for later := at + 1; later < len(r); later++ {
				r := example(t)
				spoil(&r[at])
				r[later].Weight = math.NaN()
				holdCheck(t, r, at, want)
			}
		}
		// the error of pkg.Check comes ahead of the package's place
		for _, pair := range [][]string{{"a 1", "a 1"}, {"a 2", "a 1"}, {"b 1", "a 1"}} {
			r := bare(pair...)
			spoil(&r[1])
			holdCheck(t, r, 1, want)
			// and one package ahead of the next
			r = append(bare("a 0"), bare(pair...)...)
			r = append(r, r[0])
			_, first := repo.Check(r)
			spoil(&r[3])
			holdCheck(t, r, 2, first)
		}
	}
	holdCheck(t, bare("a 1", "a 01"), 1, api.ErrVer)
	holdCheck(t, bare("a 1", "a 1-0"), 1, api.ErrVer)
	holdCheck(t, bare("a 01"), 0, api.ErrVer)
	holdCheck(t, bare("a 1", "B 1"), 1, api.ErrName)
	holdCheck(t, bare("a 1", " 1"), 1, api.ErrName)
	holdCheck(t, bare("a "+longVer), 0, api.ErrLong)
	holdCheck(t, make(repo.Repo, 1), 0, api.ErrName)
}

func TestP701CheckOfTooMany(t *testing.T) {
	holdCheck(t, numbered(api.MaxPkgs+1), 0, api.ErrLong)
	holdCheck(t, make(repo.Repo, api.MaxPkgs+1), 0, api.ErrLong)
	holdCheck(t, make(repo.Repo, api.MaxPkgs), 0, api.ErrName)
	holdCheck(t, make(repo.Repo, 1<<16), 0, api.ErrLong)
	r := numbered(api.MaxPkgs + 1)
	r[0].Name, r[3] = "z", r[2]
	holdCheck(t, r, 0, api.ErrLong)
	holdCheck(t, r[1:], 2, api.ErrTwice)
}

// checkByItsWords does what P701 says of Check, word by word.
func checkByItsWords(r repo.Repo) (int, api.Errno) {
	if len(r) > 64 {
		return 0, api.ErrLong
	}
	for i, p := range r {
		if err := pkg.Check(p); err != api.OK {
			return i, err
		}
		if i == 0 {
			continue
		}
		before := r[i-1]
		if p.Name == before.Name && p.Ver == before.Ver {
			return i, api.ErrTwice
		}
		if p.Name < before.Name || p.Name == before.Name && ver.Compare(p.Ver, before.Ver) <= 0 {
			return i, api.ErrOrder
		}
	}
	return 0, api.OK
}

func TestP701CheckAgainstItsWords(t *testing.T) {
	random := rand.New(rand.NewSource(701))
	names, versions := []string{"a", "a-b", "ab", "b"}, []string{"0~1", "0", "0-1", "0a0", "0.0", "9", "10", "1:0"}
	told := map[api.Errno]int{}
	for range 40000 {
		var r repo.Repo
		for range random.Intn(6) {
			r = append(r, pkg.Pkg{Name: names[random.Intn(len(names))], Ver: versions[random.Intn(len(versions))]})
		}
		if random.Intn(3) > 0 {
			slices.SortFunc(r, func(p, q pkg.Pkg) int {
				if p.Name != q.Name {
					return strings.Compare(p.Name, q.Name)
				}
				return ver.Compare(p.Ver, q.Ver)
			})
		}
		if len(r) > 0 && random.Intn(5) == 0 {
			r[random.Intn(len(r))] = pkg.Pkg{Name: "a", Ver: "01"}
		}
		index, want := checkByItsWords(r)
		holdCheck(t, r, index, want)
		told[want]++
	}
	for _, err := range []api.Errno{api.OK, api.ErrVer, api.ErrTwice, api.ErrOrder} {
		if told[err] < 1000 {
			t.Errorf("%v came up %d times only", err, told[err])
		}
	}
}

func TestP701Names(t *testing.T) {
	for _, c := range []struct {
		r    repo.Repo
		want []string
	}{
		{nil, nil},
		{example(t), []string{"a", "b", "c"}},
		{bare("a 1"), []string{"a"}},
		{bare("a 1", "a 2", "a 3"), []string{"a"}},
		{bare("a 1", "b 0", "b 1"), []string{"a", "b"}},
		{bare("a 1", "a 2", "b 0"), []string{"a", "b"}},
		{bare("a 9", "a- 9", "a0 9", "a10 9", "a2 9", "aa 9"), []string{"a", "a-", "a0", "a10", "a2", "aa"}},
	} {
		if names := repo.Names(c.r); !slices.Equal(names, c.want) {
			t.Errorf("Names(%s): %v; want %v", shown(c.r), names, c.want)
		}
	}
	names := repo.Names(numbered(api.MaxPkgs))
	if len(names) != api.MaxPkgs || !slices.IsSorted(names) {
		t.Errorf("Names of all different packages: %v", names)
	}
}

func TestP701Named(t *testing.T) {
	for name, want := range map[string][]int{
		"a": {0, 1, 2}, "b": {3, 4}, "c": {5}, "d": nil, "": nil, "v": nil, "w": nil, "A": nil, "aa": nil, "a ": nil, "a 1": nil, "\xff": nil,
	} {
		if l := repo.Named(example(t), name); !slices.Equal(l, want) {
			t.Errorf("Named %q: %v; want %v", name, l, want)
		}
		if l := repo.Named(nil, name); len(l) != 0 {
			t.Errorf("Named %q of no packages: %v", name, l)
		}
	}
	for i, p := range numbered(api.MaxPkgs) {
		if l := repo.Named(numbered(api.MaxPkgs), p.Name); !slices.Equal(l, []int{i}) {
			t.Errorf("Named %q: %v; want %d", p.Name, l, i)
		}
	}
}

func TestP701Meeting(t *testing.T) {
	for s, want := range map[string][]int{
		"a": {0, 1, 2, 4}, "a (> 1)": {2, 4}, "a (>= 1)": {1, 2, 4}, "a (< 1)": {0}, "a (<= 01-0)": {0, 1}, "a (= 7)": {4}, "a (!= 1)": {0, 2, 4},
		"a (= 1~1 | = 2)": {0, 2}, "a (> 2 & < 7)": nil, "a (none)": nil,
		"b": {3, 4}, "b (< 1.10)": {3}, "b (= 1.10)": {4}, "b (= 7)": nil, "b (!= 1.9)": {4},
		"c": {5}, "c (<= 0)": {5}, "c (> 0)": nil,
		"v": {4}, "v (= 7)": {4}, "v (= 1.10)": nil, "w": {4}, "w (= 7)": nil, "w (!= 7)": nil, "w (none)": nil, "x": nil,
	} {
		if l := repo.Meeting(example(t), parsed(t, s)); !slices.Equal(l, want) {
			t.Errorf("Meeting %s: %v; want %v", s, l, want)
		}
		if l := repo.Meeting(nil, parsed(t, s)); len(l) != 0 {
			t.Errorf("Meeting %s of no packages: %v", s, l)
		}
		for i, p := range example(t) {
			if pkg.Meets(p, parsed(t, s)) != slices.Contains(want, i) {
				t.Errorf("package %d and %s: %v", i, s, !slices.Contains(want, i))
			}
		}
	}
}

func TestP701Find(t *testing.T) {
	for _, c := range []struct {
		name, v string
		i       int
		found   bool
	}{
		{"a", "1~1", 0, true},
		{"a", "1", 1, true},
		{"a", "2", 2, true},
		{"b", "1.9", 3, true},
		{"b", "1.10", 4, true},
		{"c", "0", 5, true},
		// however the version is written
		{"a", "01-0", 1, true},
		{"a", "0:1", 1, true},
		{"a", "000000:0001-000", 1, true},
		{"a", "01~001", 0, true},
		{"b", "01.010-0", 4, true},
		{"c", "0:0-0", 5, true},
		{"c", "000", 5, true},
		// and others
		{"a", "0", 0, false},
		{"a", "3", 0, false},
		{"a", "1-1", 0, false},
		{"a", "1:1", 0, false},
		{"a", "7", 0, false},
		{"a", "1.9", 0, false},
		{"b", "1.1", 0, false},
		{"b", "1", 0, false},
		{"c", "0~0", 0, false},
		{"v", "7", 0, false},
		{"w", "1.10", 0, false},
		{"d", "1", 0, false},
		{"A", "1", 0, false},
		{"", "1", 0, false},
		{"a 1", "1", 0, false},
		// P8: what is no version is not found
		{"a", "", 0, false},
		{"a", "x", 0, false},
		{"a", longVer, 0, false},
	} {
		if i, found := repo.Find(example(t), c.name, c.v); i != c.i || found != c.found {
			t.Errorf("Find %s %s: %d, %v; want %d, %v", c.name, c.v, i, found, c.i, c.found)
		}
		if i, found := repo.Find(nil, c.name, c.v); i != 0 || found {
			t.Errorf("Find %s %s of no packages: %d, %v", c.name, c.v, i, found)
		}
	}
	full := numbered(api.MaxPkgs)
	for i, p := range full {
		if at, found := repo.Find(full, p.Name, p.Ver); at != i || !found {
			t.Errorf("Find %s: %d, %v; want %d", p.Name, at, found, i)
		}
	}
}

func TestP701Same(t *testing.T) {
	weighted := func(w float64) repo.Repo { return repo.Repo{{Name: "a", Ver: "1", Weight: w}} }
	heavier, provides := example(t), example(t)
	heavier[5].Weight = 1
	provides[4].Provides[2].Ver = "1"
	all := []repo.Repo{
		nil, make(repo.Repo, 1), make(repo.Repo, 2), make(repo.Repo, 1<<10), example(t), example(t)[:5], example(t)[1:], heavier, provides,
		bare("a 1"), bare("a 01"), bare("A 1"), bare("a 2"), bare("a 1", "a 2"), bare("a 2", "a 1"), bare("a 1", "a 1"), bare("a 1", "a 1", "a 1"),
		{{Depends: []pkg.Dep{{}}}}, {{Conflicts: []atom.Atom{{}}}}, {{Provides: []pkg.Give{{}}}},
		weighted(1), weighted(math.Copysign(0, -1)), weighted(math.Inf(1)), weighted(math.NaN()), weighted(math.Copysign(math.NaN(), -1)),
	}
	for i, a := range all {
		for k, b := range all {
			if repo.Same(a, twin(b)) != (i == k) {
				t.Errorf("Same(%s, %s): %v", shown(a), shown(b), i != k)
			}
		}
	}
	if !repo.Same(nil, repo.Repo{}) || !repo.Same(repo.Repo{}, nil) {
		t.Error("an empty repository differs from a nil one")
	}
	if !repo.Same(bare("a 1"), repo.Repo{{Name: "a", Ver: "1", Depends: []pkg.Dep{}, Conflicts: []atom.Atom{}, Provides: []pkg.Give{}}}) {
		t.Error("empty lists differ from nil ones")
	}
}

// isIn tells whether v has a byte in the memory of s.
func isIn(v, s string) bool {
	first := func(s string) uintptr { return uintptr(unsafe.Pointer(unsafe.StringData(s))) }
	return v != "" && s != "" && first(v) < first(s)+uintptr(len(s)) && first(s) < first(v)+uintptr(len(v))
}

func TestP2ArgumentsStayAsTheyAre(t *testing.T) {
	for _, r := range []repo.Repo{example(t), bare("b 1", "a 1", "a 1", "B 2"), numbered(api.MaxPkgs)} {
		whole := append(twin(r), bare("spare 2", "spare 1", "spare 3")...)
		before := twin(whole)
		r = whole[:len(r)]
		repo.Check(r)
		repo.Print(r)
		repo.Names(r)
		repo.Named(r, "a")
		repo.Meeting(r, parsed(t, "a (> 1)"))
		repo.Find(r, "a", "1")
		repo.Same(r, before)
		if !repo.Same(whole, before) {
			t.Errorf("%s is now %s", shown(before), shown(whole))
		}
	}
}

// TestP2ResultsAreNewMemory writes all over a result and what lies behind it.
func TestP2ResultsAreNewMemory(t *testing.T) {
	r, a := example(t), parsed(t, "a")
	for range 2 {
		if names := repo.Names(r); !slices.Equal(names, []string{"a", "b", "c"}) {
			t.Errorf("Names: %v", names)
		} else {
			spill(names, "spilt")
		}
		for _, l := range [][]int{repo.Named(r, "a"), repo.Meeting(r, a)} {
			if !slices.Equal(l[:3], []int{0, 1, 2}) {
				t.Errorf("Named or Meeting: %v", l)
			}
			spill(l, -1)
		}
	}
	if !repo.Same(r, example(t)) {
		t.Error("a result shares memory with the repository")
	}
	for _, name := range repo.Names(r) {
		for _, p := range r {
			if isIn(name, p.Name) {
				t.Errorf("the name %q lies in the repository", name)
			}
		}
	}
}

func spill[E any](l []E, over E) {
	l = l[:cap(l)]
	for i := range l {
		l[i] = over
	}
}

func TestP3SameCallsSameResults(t *testing.T) {
	wrong := bare("a 1", "b 1", "b 1")
	for range 3 {
		holdCheck(t, wrong, 2, api.ErrTwice)
		holdCheck(t, example(t), 0, api.OK)
		if i, found := repo.Find(example(t), "b", "1.10"); i != 4 || !found {
			t.Errorf("Find: %d, %v", i, found)
		}
		if l := repo.Meeting(example(t), parsed(t, "v")); !slices.Equal(l, []int{4}) {
			t.Errorf("Meeting: %v", l)
		}
	}
}

func TestP1AnyRepositories(t *testing.T) {
	texts := []string{"", "a", "A", "1", "01", "x", longVer, longName, "\xff", "a: 1\n\n", strings.Repeat("1", 1<<16)}
	weights := []float64{0, math.Copysign(0, -1), math.NaN(), math.Inf(-1)}
	for _, name := range texts {
		for _, v := range texts {
			for _, w := range weights {
				a := atom.Atom{Name: name, Range: rng.Range{{Lo: v, HiIn: true}, {}, {Hi: v, LoIn: true}}}
				odd := pkg.Pkg{Name: name, Ver: v, Depends: []pkg.Dep{nil, {a, a}}, Conflicts: []atom.Atom{{}, a}, Provides: []pkg.Give{{}, {Name: name, Ver: v}}, Weight: w}
				good := pkg.Pkg{Name: "a", Ver: "1"}
				for _, r := range []repo.Repo{{odd}, {odd, odd}, {good, odd, good}, {good, {Name: name, Ver: v, Weight: w}, odd}} {
					checkAny(t, r, name, v, a)
				}
			}
		}
	}
	for _, n := range []int{api.MaxPkgs, api.MaxPkgs + 1, 1 << 16} {
		checkAny(t, make(repo.Repo, n), "", "", atom.Atom{})
	}
}

// checkAny calls everything and holds Check and Print against their words.
func checkAny(t *testing.T, r repo.Repo, name, v string, a atom.Atom) {
	t.Helper()
	repo.Names(r)
	repo.Named(r, name)
	repo.Meeting(r, a)
	repo.Find(r, name, v)
	if !repo.Same(r, twin(r)) {
		t.Fatalf("%s is not the same as its twin", shown(r))
	}
	index, want := checkByItsWords(r)
	holdCheck(t, r, index, want)
	if s, err := repo.Print(r); err != want || err != api.OK && s != "" {
		t.Fatalf("Print(%s): %q, %v; want %v", shown(r), s, err, want)
	}
}
