package sample_test

import (
	"math/rand"
	"slices"
	"testing"

	"manciple/api"
	"manciple/ask"
	"manciple/lock"
	"manciple/repo"
	"manciple/sample"
)

func holdAccepted(t *testing.T, r repo.Repo, k lock.Lock, l []ask.Ask) {
	t.Helper()
	if i, err := repo.Check(r); err != api.OK {
		t.Errorf("repository: %d, %v", i, err)
	}
	if i, err := lock.Check(k); err != api.OK {
		t.Errorf("lockfile: %d, %v", i, err)
	}
	if _, i, err := ask.Text(l); err != api.OK {
		t.Errorf("requests: %d, %v", i, err)
	}
}

func TestMadeOfLines(t *testing.T) {
	text, err := repo.Print(sample.Packages("b 2 / Provides: v", "a 1 / Depends: b / Weight: 1p0"))
	if want := "Package: a\nVersion: 1\nDepends: b\nWeight: 1p0\n\nPackage: b\nVersion: 2\nProvides: v\n"; text != want || err != api.OK {
		t.Errorf("Packages: %q, %v; want %q", text, err, want)
	}
	text, _, err = ask.Text(sample.Requests("remove b", "install a"))
	if want := "remove b\ninstall a\n"; text != want || err != api.OK {
		t.Errorf("Requests: %q, %v; want %q", text, err, want)
	}
	if k, want := sample.Installed("a 1", "b 2"), (lock.Lock{{Name: "a", Ver: "1"}, {Name: "b", Ver: "2"}}); !lock.Same(k, want) {
		t.Errorf("Installed: %v; want %v", k, want)
	}
	holdAccepted(t, sample.Packages(), sample.Installed(), sample.Requests())
}

func TestWrongLinesPanic(t *testing.T) {
	for name, run := range map[string]func(){
		"Packages":  func() { sample.Packages("a") },
		"Requests":  func() { sample.Requests("install a", "get b") },
		"Installed": func() { sample.Installed("b 1", "a 1") },
	} {
		func() {
			defer func() {
				if recover() == nil {
					t.Errorf("%s: no panic", name)
				}
			}()
			run()
		}()
	}
}

func TestSubset(t *testing.T) {
	for _, c := range []struct {
		bits, n int
		want    []int
	}{{0, 0, nil}, {-1, 0, nil}, {0, 4, nil}, {5, 4, []int{0, 2}}, {5, 2, []int{0}}, {-1, 3, []int{0, 1, 2}}} {
		if set := sample.Subset(c.bits, c.n); !slices.Equal(set, c.want) {
			t.Errorf("Subset(%d, %d): %v; want %v", c.bits, c.n, set, c.want)
		}
	}
}

func TestMixedAndFull(t *testing.T) {
	r, l := sample.Mixed()
	holdAccepted(t, r, nil, l)
	r, l = sample.Full()
	holdAccepted(t, r, nil, l)
	p := r[len(r)-1]
	if len(r) != api.MaxPkgs || len(p.Depends) != api.MaxDeps || len(p.Depends[0]) != api.MaxAtoms || len(p.Conflicts) != api.MaxDeps || len(l) != api.MaxAsks {
		t.Error("Full is not full")
	}
}

func TestDrawn(t *testing.T) {
	random, again := rand.New(rand.NewSource(1)), rand.New(rand.NewSource(1))
	packages, entries, lines := 0, 0, 0
	for range 500 {
		r, k, l := sample.Drawn(random.Intn)
		holdAccepted(t, r, k, l)
		packages, entries, lines = packages+len(r), entries+len(k), lines+len(l)
		r2, k2, l2 := sample.Drawn(again.Intn)
		if !repo.Same(r, r2) || !lock.Same(k, k2) || !ask.Same(l, l2) {
			t.Fatal("the same numbers draw something else")
		}
	}
	if packages < 500 || entries < 500 || lines < 500 {
		t.Errorf("%d packages, %d entries and %d requests were drawn", packages, entries, lines)
	}
}

// given returns something of which every list has elements.
func given() sample.Given {
	return sample.Given{
		Repo: sample.Packages("a 1 / Depends: b (> 1) / Conflicts: c (> 1) / Provides: v"),
		Lock: sample.Installed("a 1"),
		Asks: sample.Requests("pin a (> 1)"),
		Set:  []int{0},
	}
}

func TestSpacedIsTheSame(t *testing.T) {
	for _, g := range []sample.Given{{}, given()} {
		if !sample.Same(g.Spaced(), g) {
			t.Errorf("Spaced: %v; want %v", g.Spaced(), g)
		}
	}
}

// overwrite changes the first element beyond the end of l.
func overwrite[E any](l []E) {
	var nothing E
	l[:len(l)+1][len(l)] = nothing
}

func TestStretchedTellsEveryChange(t *testing.T) {
	for i, change := range []func(sample.Given){
		func(g sample.Given) { overwrite(g.Repo) },
		func(g sample.Given) { overwrite(g.Repo[0].Depends) },
		func(g sample.Given) { overwrite(g.Repo[0].Depends[0]) },
		func(g sample.Given) { overwrite(g.Repo[0].Depends[0][0].Range) },
		func(g sample.Given) { overwrite(g.Repo[0].Conflicts) },
		func(g sample.Given) { overwrite(g.Repo[0].Conflicts[0].Range) },
		func(g sample.Given) { overwrite(g.Repo[0].Provides) },
		func(g sample.Given) { overwrite(g.Lock) },
		func(g sample.Given) { overwrite(g.Asks) },
		func(g sample.Given) { overwrite(g.Asks[0].Atom.Range) },
		func(g sample.Given) { overwrite(g.Set) },
		func(g sample.Given) { g.Repo[0].Depends[0][0].Name = "z" },
		func(g sample.Given) { g.Lock[0].Ver = "2" },
		func(g sample.Given) { g.Asks[0].Kind = ask.Install },
		func(g sample.Given) { g.Set[0] = 1 },
	} {
		g := given().Spaced()
		before := g.Stretched()
		if !sample.Same(g.Stretched(), before) {
			t.Fatal("Stretched: a change though there was none")
		}
		if change(g); sample.Same(g.Stretched(), before) {
			t.Errorf("Stretched does not tell change %d", i)
		}
	}
}

func TestSpill(t *testing.T) {
	l := []int{1, 2, 3, 4, 5}
	sample.Spill(l[1:2:4], 9)
	if !slices.Equal(l, []int{1, 9, 9, 9, 5}) {
		t.Errorf("Spill: %v", l)
	}
	sample.Spill([]int(nil), 9)
}

func TestWildIsRefused(t *testing.T) {
	l := sample.Wild()
	for _, g := range l {
		if _, err := repo.Check(g.Repo); err == api.OK {
			t.Errorf("repository: %v is accepted", g.Repo)
		}
		if _, err := lock.Check(g.Lock); err == api.OK {
			t.Errorf("lockfile: %v is accepted", g.Lock)
		}
		if _, _, err := ask.Text(g.Asks); err == api.OK {
			t.Errorf("requests: %v are accepted", g.Asks)
		}
	}
	if len(l) < 500 {
		t.Errorf("only %d of them", len(l))
	}
}
