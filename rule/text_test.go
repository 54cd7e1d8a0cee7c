package rule_test

import (
	"fmt"
	"math/rand"
	"slices"
	"testing"

	"manciple/api"
	"manciple/ask"
	"manciple/atom"
	"manciple/pkg"
	"manciple/repo"
	"manciple/rule"
	"manciple/sample"
)

func holdTexts(t *testing.T, r repo.Repo, l []ask.Ask, want ...string) {
	t.Helper()
	var got []string
	for _, x := range rule.All(r, l) {
		got = append(got, rule.Text(x, r, l))
	}
	if !slices.Equal(got, want) {
		t.Errorf("Text: %q; want %q", got, want)
	}
}

func TestP1002Text(t *testing.T) {
	r, l := sample.Mixed()
	holdTexts(t, r, l,
		"only one a",
		"only one b",
		"only one c",
		"a 1 needs b (> 1) or v",
		"a 1 needs a",
		"a 2 refuses b",
		"a 2 refuses a",
		"a 2 refuses w",
		"b 1 needs c",
		"b 1 refuses v (= 1)",
		"asked install v (> 2)",
		"asked remove b",
		"asked upgrade a",
		"asked pin b (= 1)",
	)
}

func TestP1002TextIsCanonical(t *testing.T) {
	holdTexts(t,
		sample.Packages("gcc 1:02-3 / Depends: as (!= 01) or ld (>= 2 | = 1.0); libc (none) / Conflicts: libc (> 1 & < 3)"),
		sample.Requests("install a (>= 1 | = 0)", "pin a (>= 1 & < 1)", "pin z-9", "install a (< 2 | >= 2)"),
		"only one gcc",
		"gcc 1:2-3 needs as (< 1 | > 1) or ld (= 1.0 | >= 2)",
		"gcc 1:2-3 needs libc (none)",
		"gcc 1:2-3 refuses libc (> 1 & < 3)",
		"asked install a (= 0 | >= 1)",
		"asked pin a (none)",
		"asked pin z-9",
		"asked install a",
	)
}

func TestP1002TextOfNamesThatAreWordsOfIt(t *testing.T) {
	holdTexts(t,
		sample.Packages("asked 1 / Depends: or or or; needs", "only 1 / Depends: one / Conflicts: refuses", "or 1"),
		sample.Requests("install needs", "remove install"),
		"only one asked",
		"only one only",
		"only one or",
		"asked 1 needs or or or",
		"asked 1 needs needs",
		"only 1 needs one",
		"only 1 refuses refuses",
		"asked install needs",
		"asked remove install",
	)
}

// part writes what a rule is about, in a way that differs for different things.
func part(x rule.Rule, r repo.Repo, l []ask.Ask) string {
	switch x.Kind {
	case rule.Needs:
		return fmt.Sprint(x.Kind, x.Pkg, r[x.Pkg].Depends[x.At])
	case rule.Conflict:
		return fmt.Sprint(x.Kind, x.Pkg, r[x.Pkg].Conflicts[x.At])
	case rule.Asked:
		return fmt.Sprint(x.Kind, l[x.At])
	}
	return fmt.Sprint(x.Kind, x.Name)
}

func TestP1002OnlyEqualPartsHaveEqualTexts(t *testing.T) {
	random := rand.New(rand.NewSource(1002))
	equal := 0
	for range 500 {
		r, _, l := sample.Drawn(random.Intn)
		rules := rule.All(r, l)
		parts := map[string]string{}
		for _, x := range rules {
			text, is := rule.Text(x, r, l), part(x, r, l)
			before, found := parts[text]
			if text == "" || found && before != is {
				t.Fatalf("Text(%v): %q is that of %s and of %s", x, text, before, is)
			}
			if found {
				equal++
			}
			parts[text] = is
		}
	}
	if equal < 20 {
		t.Errorf("only %d rules had the text of another one", equal)
	}
}

func TestP1002TextByTheLayersBelow(t *testing.T) {
	random := rand.New(rand.NewSource(12))
	for range 500 {
		r, _, l := sample.Drawn(random.Intn)
		for _, x := range rule.All(r, l) {
			p := pkg.Pkg{}
			if len(r) > 0 {
				p = r[x.Pkg]
			}
			want := "only one " + x.Name
			switch x.Kind {
			case rule.Needs:
				want = p.Name + " " + p.Ver + " needs " + pkg.DepText(p.Depends[x.At])
			case rule.Conflict:
				want = p.Name + " " + p.Ver + " refuses " + atom.Text(p.Conflicts[x.At])
			case rule.Asked:
				line, _, err := ask.Text(l[x.At : x.At+1])
				if err != api.OK {
					t.Fatal(err)
				}
				want = "asked " + line[:len(line)-1]
			}
			if got := rule.Text(x, r, l); got != want {
				t.Errorf("Text(%v): %q; want %q", x, got, want)
			}
		}
	}
}
