package atom_test

import (
	"math/rand"
	"regexp"
	"strconv"
	"strings"
	"testing"

	"manciple/api"
	"manciple/atom"
	"manciple/rng"
	"manciple/ver"
)

func TestP402TextAndBack(t *testing.T) {
	for want, r := range map[string]rng.Range{
		"a":                             rng.All(),
		"a (none)":                      nil,
		"a (= 1)":                       {only("1")},
		"a (< 1 | > 1)":                 of(t, "!=", "1"),
		"a (< 1)":                       {{Hi: "1"}},
		"a (<= 1)":                      {{Hi: "1", HiIn: true}},
		"a (> 1)":                       {{Lo: "1"}},
		"a (>= 1)":                      {{Lo: "1", LoIn: true}},
		"a (> 1 & < 2)":                 {{Lo: "1", Hi: "2"}},
		"a (>= 1 & < 2)":                {{Lo: "1", Hi: "2", LoIn: true}},
		"a (> 1 & <= 2)":                {{Lo: "1", Hi: "2", HiIn: true}},
		"a (>= 1 & <= 2)":               {{Lo: "1", Hi: "2", LoIn: true, HiIn: true}},
		"a (= 1 | = 2)":                 {only("1"), only("2")},
		"a (<= 1~a2 | = 3:4-5 | > 6:0)": {{Hi: "1~a2", HiIn: true}, only("3:4-5"), {Lo: "6:0"}},
		"a (< 1 | > 1 & < 2 | >= 3)":    {{Hi: "1"}, {Lo: "1", Hi: "2"}, {Lo: "3", LoIn: true}},
		"a (= " + long[1:] + ")":        {only(long[1:])},
	} {
		for _, name := range []string{"a", "z-9", strings.Repeat("b", api.MaxName)} {
			holdBothWays(t, atom.Atom{Name: name, Range: r}, name+want[1:])
		}
	}
}

// holdBothWays tells whether an atom has that text and is read from it.
func holdBothWays(t *testing.T, a atom.Atom, want string) {
	t.Helper()
	if s := atom.Text(a); s != want {
		t.Errorf("Text(%v): %q; want %q", a, s, want)
	}
	if read, err := atom.Parse(want); err != api.OK || !atom.Same(read, a) {
		t.Errorf("Parse(%q): %v, %v; want %v", want, read, err, a)
	}
}

// form is a text as Text writes it.
var form = regexp.MustCompile(`^[a-z][a-z0-9-]*( \((none|` + span + `( \| ` + span + `)*)\))?$`)

const span = `(= [^ ()]+|>=? [^ ()]+|<=? [^ ()]+|>=? [^ ()]+ & <=? [^ ()]+)`

func TestP402TextAndBackOfAnyRange(t *testing.T) {
	source := rand.New(rand.NewSource(4))
	versions := []string{"", "0~1", "0", "0-1", "0a0", "0.0", "1", "1-2", "1:0"}
	for range 20000 {
		var l []rng.Span
		for range source.Intn(5) {
			one, other := source.Intn(len(versions)), source.Intn(len(versions))
			s := rng.Span{Lo: versions[one], Hi: versions[other]}
			s.LoIn, s.HiIn = s.Lo != "" && source.Intn(2) == 0, s.Hi != "" && source.Intn(2) == 0
			if _, err := rng.Norm([]rng.Span{s}); err == api.OK {
				l = append(l, s)
			}
		}
		r, err := rng.Norm(l)
		a := atom.Atom{Name: "a", Range: r}
		if err != api.OK || atom.Check(a) != api.OK {
			t.Fatalf("%v: %v, %v", l, err, atom.Check(a))
		}
		holdBothWays(t, a, atom.Text(a))
		if !form.MatchString(atom.Text(a)) {
			t.Fatalf("Text(%v): %q", a, atom.Text(a))
		}
	}
}

func TestP402ParseOfConditions(t *testing.T) {
	for s, want := range map[string]string{
		"a (= 01)":                           "a (= 1)",
		"a (= 0:1-0)":                        "a (= 1)",
		"a (!= 1)":                           "a (< 1 | > 1)",
		"a (> 1 & > 2)":                      "a (> 2)",
		"a (> 2 & > 1)":                      "a (> 2)",
		"a (< 2 & > 1)":                      "a (> 1 & < 2)",
		"a (> 1 | > 2)":                      "a (> 1)",
		"a (< 1 & > 2)":                      "a (none)",
		"a (< 1 & >= 1)":                     "a (none)",
		"a (<= 1 & >= 1)":                    "a (= 1)",
		"a (< 2 | > 1)":                      "a",
		"a (< 1 | >= 1)":                     "a",
		"a (= 2 | = 1 | = 2)":                "a (= 1 | = 2)",
		"a (< 1 & > 2 | = 3)":                "a (= 3)",
		"a (= 3 | < 1 & > 2)":                "a (= 3)",
		"a (!= 1 & != 2)":                    "a (< 1 | > 1 & < 2 | > 2)",
		"a (!= 1 | != 2)":                    "a",
		"a (> 1 & < 9 & != 5)":               "a (> 1 & < 5 | > 5 & < 9)",
		"a (= 5 | > 1 & < 9 & != 5)":         "a (> 1 & < 9)",
		"a (= 7 | >= 1 & < 2 | > 8 & <= 9)":  "a (>= 1 & < 2 | = 7 | > 8 & <= 9)",
		"a (= 1~~1 | = 1~1 | = 1)":           "a (= 1~~1 | = 1~1 | = 1)",
		"a (= 1 | = 2 & = 2 | = 3 & = 3)":    "a (= 1 | = 2 | = 3)",
		"a (= 1 & = 2)":                      "a (none)",
		"z (>= 1 & <= 1 & = 1-0 | = 000001)": "z (= 1)",
	} {
		a, err := atom.Parse(s)
		if got := atom.Text(a); err != api.OK || got != want {
			t.Errorf("Parse(%q): %q, %v; want %q", s, got, err, want)
		}
	}
}

// holdError tells whether Parse answers the error and nothing beside it.
func holdError(t *testing.T, s string, want api.Errno) {
	t.Helper()
	if a, err := atom.Parse(s); err != want || !isZero(a) {
		t.Errorf("Parse(%q): %v, %v; want %v", s, a, err, want)
	}
}

func TestP402ParseOfNoForm(t *testing.T) {
	for _, s := range []string{
		"", " ", "a ", " a", "a  ", "a b", "a b (= 1)", "(", ")", "()", "(= 1)", " (= 1)", "a()", "a(= 1)", "a (", "a )", "a ()", "a ( )",
		"a ((", "a ))", "a )(", "a (= 1", "a = 1", "a = 1)", "a (= 1))", "a ((= 1)", "a ((= 1))", "a (= 1) ", "a (= 1)b", "a  (= 1)",
		"a ( = 1)", "a (= 1 )", "a (=  1)", "a (=1)", "a (=)", "a (= )", "a ( 1)", "a (1)", "a (1 =)", "a (= 1 2)", "a (= 1 = 2)",
		"a (= 1) (= 2)", "a (= 1 (= 2))", "a (= (1)", "a (= 1()", "a (= ()", "a(b", "a)", "a) (= 1)", "(a (= 1)",
		"a (== 1)", "a (<> 1)", "a (=< 1)", "a (~ 1)", "a (! 1)", "a (≥ 1)", "a (<< 1)", "a (x 1)", "a (none 1)", "a (=\x00 1)",
		"a (none )", "a ( none)", "a (None)", "a (NONE)", "a (none | = 1)", "a (= 1 | none)", "a (none & = 1)", "a (none | none)", "a none",
		"a (= 1 | )", "a ( | = 1)", "a (| = 1)", "a (= 1 |)", "a (= 1 |= 2)", "a (= 1| = 2)", "a (= 1  | = 2)", "a (= 1 |  = 2)",
		"a (= 1 & )", "a ( & = 1)", "a (& = 1)", "a (= 1 &)", "a (= 1 &= 2)", "a (= 1& = 2)", "a (= 1  & = 2)", "a (= 1 &  = 2)",
		"a (= 1 | | = 2)", "a (= 1 & & = 2)", "a (= 1 & | = 2)", "a (= 1 | & = 2)", "a (= 1 || = 2)", "a (= 1 && = 2)", "a (= 1, = 2)",
		"a ( | )", "a ( & )", "a (|)", "a (&)", "a (=\t1)", "a\t(= 1)", "a (= 1 or = 2)", "a (= 1)\n",
		// cut from left to right, a separator is none of the versions
		"a (= | | = 1)", "a (= & & = 1)", "a (= | & = 1)", "a (> 1 & = | | = 1)",
	} {
		holdError(t, s, api.ErrForm)
	}
}

func TestP402ParseErrorsInOrder(t *testing.T) {
	repeat := func(n int, more string) string { return strings.Repeat(more+" | ", n-1) + more }
	for s, want := range map[string]api.Errno{
		"A":                             api.ErrName,
		"1":                             api.ErrName,
		"a|b":                           api.ErrName,
		"|":                             api.ErrName,
		"a\n":                           api.ErrName,
		"a\t":                           api.ErrName,
		"a\xff":                         api.ErrName,
		strings.Repeat("a", 25):         api.ErrName,
		"A (none)":                      api.ErrName,
		"A (= 1)":                       api.ErrName,
		"A (= x)":                       api.ErrName,
		"A (= 1":                        api.ErrForm,
		"A (1)":                         api.ErrForm,
		"A (= x | 1)":                   api.ErrForm,
		"A (" + repeat(17, "= x") + ")": api.ErrName,

		"a (" + repeat(16, "= 1") + ")":            api.OK,
		"a (" + repeat(17, "= 1") + ")":            api.ErrLong,
		"a (" + repeat(17, "= x") + ")":            api.ErrLong,
		"a (" + repeat(17, "= x") + " | 1)":        api.ErrForm,
		"a (" + repeat(16, "= x") + ")":            api.ErrVer,
		"a (" + repeat(8, "> 1 & < 2") + ")":       api.OK,
		"a (" + repeat(9, "> 1 & < 2") + ")":       api.ErrLong,
		"a (" + repeat(8, "> 1 & < 2") + " & = 1)": api.ErrLong,
		"a (" + repeat(8, "> 1 & < 2") + " | = 1)": api.ErrLong,

		"a (= x)":                               api.ErrVer,
		"a (= 1.)":                              api.ErrVer,
		"a (!= |)":                              api.ErrVer,
		"a (!= &)":                              api.ErrVer,
		"a (= & | = 1)":                         api.ErrVer,
		"a (= =)":                               api.ErrVer,
		"a (= none)":                            api.ErrVer,
		"a (= 1|2)":                             api.ErrVer,
		"a (= 1\n)":                             api.ErrVer,
		"a (= \xff)":                            api.ErrVer,
		"a (= " + long + ")":                    api.ErrLong,
		"a (= " + long[1:] + ")":                api.OK,
		"a (= x | = " + long + ")":              api.ErrVer,
		"a (= " + long + " | = x)":              api.ErrLong,
		"a (= x & = " + long + ")":              api.ErrVer,
		"a (= " + long + " & = x)":              api.ErrLong,
		"a (= 1 & > x | = " + long + ")":        api.ErrVer,
		"a (= 1 & > 2 & < x | = " + long + ")":  api.ErrVer,
		"a (= 1 & > " + long + " | = x)":        api.ErrLong,
		"a (< 1 & > 2 | < 3 | > 3 | = 3 | = x)": api.ErrVer,
	} {
		if want != api.OK {
			holdError(t, s, want)
		} else if a, err := atom.Parse(s); err != want || atom.Check(a) != want {
			t.Errorf("Parse(%q): %v, %v", s, a, err)
		}
	}
}

func TestP402ParseOfTooManyVersionsInTheText(t *testing.T) {
	var not []string
	for i := range maxVersions {
		not = append(not, "!= "+strconv.Itoa(i))
	}
	for n := 1; n <= maxVersions; n++ {
		s := "a (" + strings.Join(not[:n], " & ") + ")"
		if n > maxVersions/2 {
			holdError(t, s, api.ErrLong)
		} else if a, err := atom.Parse(s); err != api.OK || len(a.Range) != n+1 {
			t.Errorf("Parse(%q): %v, %v", s, a, err)
		}
	}
	holdError(t, "a ("+strings.Join(not[:8], " & ")+" & != x)", api.ErrVer)
	holdError(t, "a ("+strings.Join(not[:8], " & ")+" & != 8 | = x)", api.ErrVer)
	if a, err := atom.Parse("a (" + strings.Join(not, " | ") + ")"); err != api.OK || !rng.Same(a.Range, rng.All()) {
		t.Errorf("Parse of 16 versions that leave none: %v, %v", a, err)
	}
	if a, err := atom.Parse("a (" + strings.Join(not[:15], " & ") + " & = 15)"); err != api.OK || !rng.Same(a.Range, of(t, "=", "15")) {
		t.Errorf("Parse of 16 versions of which one stays: %v, %v", a, err)
	}
}

var (
	whole = regexp.MustCompile(`(?s)^([^ ()]+)(?: \((.*)\))?$`)
	match = regexp.MustCompile(`(?s)^(=|!=|<|<=|>|>=) ([^ ()]+)$`)
)

// A reading is what P402 says of a text, word by word.
type reading struct {
	name         string
	every        bool
	alternatives [][][]string
	versions     []string
}

func read(s string) (r reading, ok bool) {
	m := whole.FindStringSubmatch(s)
	if m == nil {
		return r, false
	}
	r.name = m[1]
	r.every = s == m[1]
	if r.every || m[2] == "none" {
		return r, true
	}
	for _, alternative := range strings.Split(m[2], " | ") {
		var all [][]string
		for _, c := range strings.Split(alternative, " & ") {
			m := match.FindStringSubmatch(c)
			if m == nil {
				return r, false
			}
			all = append(all, m[1:])
			r.versions = append(r.versions, m[2])
		}
		r.alternatives = append(r.alternatives, all)
	}
	return r, true
}

// has tells whether v fulfils the conditions, by comparisons alone.
func (r reading) has(v string) bool {
	for _, alternative := range r.alternatives {
		fulfilled := 0
		for _, c := range alternative {
			if compares(v, c[0], c[1]) {
				fulfilled++
			}
		}
		if fulfilled == len(alternative) {
			return true
		}
	}
	return r.every
}

func compares(v, sign, w string) bool {
	c := ver.Compare(v, w)
	return map[string]bool{"=": c == 0, "!=": c != 0, "<": c < 0, "<=": c <= 0, ">": c > 0, ">=": c >= 0}[sign]
}

// wrong returns the error of P402 but for the last, which concerns the result.
func (r reading) wrong() api.Errno {
	if !atom.Name(r.name) {
		return api.ErrName
	}
	if len(r.versions) > maxVersions {
		return api.ErrLong
	}
	for _, v := range r.versions {
		if err := ver.Check(v); err != api.OK {
			return err
		}
	}
	return api.OK
}

// anyText strings together pieces that mostly fit.
func anyText(source *rand.Rand) string {
	pick := func(often []string, seldom ...string) string {
		if source.Intn(24) > 0 || len(seldom) == 0 {
			return often[source.Intn(len(often))]
		}
		return seldom[source.Intn(len(seldom))]
	}
	s := pick([]string{"a", "b-9"}, "", "A", " ", "|", "a b")
	if source.Intn(8) == 0 {
		return s
	}
	s += pick([]string{" ("}, " ", "(", "  (", " ((") + pick([]string{""}, "none", "none | ", " | ", "| ")
	for i := range 1 + source.Intn(9) {
		if i > 0 {
			s += pick([]string{" | ", " & "}, " ", "|", "| ", " || ", " | | ", " & | ", " | & ")
		}
		s += pick([]string{"=", "!=", "<", "<=", ">", ">="}, "", "==", "|", "&", "(")
		s += pick([]string{" "}, "", "  ", " | ", " & ")
		s += pick([]string{"0", "1", "02", "3-0", "4~1", "5"}, "", "x", "|", "&", "=", "1)", "\n", long)
	}
	return s + pick([]string{")"}, "", " )", "))", ") ")
}

func TestP402ParseAgainstItsWords(t *testing.T) {
	source := rand.New(rand.NewSource(402))
	probes := []string{"0~1", "0", "0a0", "1", "1.5", "2", "2.5", "3", "3-1", "4~1", "4", "5", "9"}
	seen := map[api.Errno]int{}
	for range 60000 {
		s := anyText(source)
		r, ok := read(s)
		want := api.ErrForm
		if ok {
			want = r.wrong()
		}
		a, err := atom.Parse(s)
		seen[err]++
		if err != want || err != api.OK && !isZero(a) {
			t.Fatalf("Parse(%q): %v, %v; want %v", s, a, err, want)
		}
		if err != api.OK {
			continue
		}
		if a.Name != r.name || atom.Check(a) != api.OK {
			t.Fatalf("Parse(%q): %v", s, a)
		}
		for _, v := range probes {
			if rng.Has(a.Range, v) != r.has(v) {
				t.Fatalf("Parse(%q): %v: %q is in: %v", s, a, v, !r.has(v))
			}
		}
	}
	for _, err := range []api.Errno{api.OK, api.ErrForm, api.ErrName, api.ErrVer, api.ErrLong} {
		if seen[err] < 100 {
			t.Errorf("%v came up %d times only", err, seen[err])
		}
	}
}

func TestP1LongTexts(t *testing.T) {
	const n = 1 << 18
	many := "a (= 1" + strings.Repeat(" | = 1", n) + ")"
	for s, want := range map[string]api.Errno{
		many:                                   api.ErrLong,
		many[:len(many)-1]:                     api.ErrForm,
		strings.Replace(many, "a ", "A ", 1):   api.ErrName,
		strings.ReplaceAll(many, "|", "&"):     api.ErrLong,
		strings.Repeat("a", n):                 api.ErrName,
		strings.Repeat(" ", n):                 api.ErrForm,
		strings.Repeat("(", n):                 api.ErrForm,
		"a " + strings.Repeat("(", n):          api.ErrForm,
		"a (= " + strings.Repeat("1", n) + ")": api.ErrLong,
		"a (" + strings.Repeat(" | ", n) + ")": api.ErrForm,
		"a (" + strings.Repeat(" & ", n) + ")": api.ErrForm,
		"a (" + strings.Repeat("=", n) + " 1)": api.ErrForm,
	} {
		if a, err := atom.Parse(s); err != want || !isZero(a) {
			t.Errorf("Parse of %d bytes: %v; want %v", len(s), err, want)
		}
	}
}
