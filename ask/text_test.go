package ask_test

import (
	"math/rand"
	"slices"
	"strconv"
	"strings"
	"testing"

	"manciple/api"
	"manciple/ask"
	"manciple/atom"
	"manciple/rng"
)

// mixed returns requests of all kinds.
func mixed() []ask.Ask {
	return []ask.Ask{
		{Kind: ask.Install, Atom: about("gcc (>= 4 & != 5.0 | = 2.95)")},
		{Kind: ask.Remove, Atom: about("b")},
		{Kind: ask.Upgrade, Atom: about("lib-c")},
		{Kind: ask.Pin, Atom: about("d (none)")},
		{Kind: ask.Install, Atom: about("e")},
		{Kind: ask.Pin, Atom: about("gcc (< 1:2-3)")},
	}
}

const mixedText = "install gcc (= 2.95 | >= 4 & < 5.0 | > 5.0)\nremove b\nupgrade lib-c\npin d (none)\ninstall e\npin gcc (< 1:2-3)\n"

// widest returns as many requests as may be, with lines as long as they may be.
func widest() []ask.Ask {
	ver := func(i int) string { return longVer[3:] + strconv.Itoa(10+i) }
	r := rng.Range{{Hi: ver(0), HiIn: true}}
	for i := 1; i < 15; i += 2 {
		r = append(r, rng.Span{Lo: ver(i), Hi: ver(i + 1), LoIn: true, HiIn: true})
	}
	r = append(r, rng.Span{Lo: ver(15), LoIn: true})
	return slices.Repeat([]ask.Ask{{Kind: ask.Install, Atom: atom.Atom{Name: longName[1:], Range: r}}}, api.MaxAsks)
}

// holdText tells whether requests are written as that text, and the text read
// as these requests.
func holdText(t *testing.T, l []ask.Ask, want string) {
	t.Helper()
	if s, i, err := ask.Text(l); s != want || i != 0 || err != api.OK {
		t.Errorf("Text(%s): %.400q, %d, %v; want %.400q", shown(l), s, i, err, want)
	}
	holdParse(t, want, l)
}

func holdParse(t *testing.T, s string, want []ask.Ask) {
	t.Helper()
	if l, line, err := ask.Parse(s); !ask.Same(l, want) || line != 0 || err != api.OK {
		t.Errorf("Parse(%.400q): %s, %d, %v; want %s", s, shown(l), line, err, shown(want))
	}
}

// holdTextError tells whether Text answers the error and its index and no text.
func holdTextError(t *testing.T, l []ask.Ask, index int, want api.Errno) {
	t.Helper()
	if s, i, err := ask.Text(l); s != "" || i != index || err != want {
		t.Errorf("Text(%s): %.400q, %d, %v; want %d, %v", shown(l), s, i, err, index, want)
	}
}

// holdParseError tells whether Parse answers the error and its line and no
// requests.
func holdParseError(t *testing.T, s string, line int, want api.Errno) {
	t.Helper()
	if l, i, err := ask.Parse(s); len(l) != 0 || i != line || err != want {
		t.Errorf("Parse(%.400q): %s, %d, %v; want %d, %v", s, shown(l), i, err, line, want)
	}
}

func TestP901TextAndBack(t *testing.T) {
	holdText(t, nil, "")
	holdText(t, []ask.Ask{}, "")
	holdText(t, mixed(), mixedText)
	for want, a := range map[string]ask.Ask{
		"install a":               {Kind: ask.Install, Atom: about("a")},
		"remove a":                {Kind: ask.Remove, Atom: about("a")},
		"upgrade a":               {Kind: ask.Upgrade, Atom: about("a")},
		"pin a":                   {Kind: ask.Pin, Atom: about("a")},
		"install a (= 0 | >= 1)":  {Kind: ask.Install, Atom: about("a (>= 1 | = 0)")},
		"install install":         {Kind: ask.Install, Atom: about("install")},
		"pin install (none)":      {Kind: ask.Pin, Atom: atom.Atom{Name: "install"}},
		"pin pin (< 1 | > 1)":     {Kind: ask.Pin, Atom: about("pin (!= 1)")},
		"install none (>= 1:2-3)": {Kind: ask.Install, Atom: about("none (>= 1:2-3)")},
	} {
		holdText(t, []ask.Ask{a}, want+"\n")
		// requests may be there twice, and need not stand in any order
		holdText(t, []ask.Ask{a, a}, want+"\n"+want+"\n")
		holdText(t, slices.Concat(mixed(), []ask.Ask{a}, mixed()), mixedText+want+"\n"+mixedText)
	}
	line := "upgrade a\n"
	a := ask.Ask{Kind: ask.Upgrade, Atom: about("a")}
	for n := range api.MaxAsks + 1 {
		holdText(t, slices.Repeat([]ask.Ask{a}, n), strings.Repeat(line, n))
	}
}

func TestP901TextOfWidestRequests(t *testing.T) {
	l := widest()
	s, _, err := ask.Text(l)
	line, _, _ := strings.Cut(s, "\n")
	if err != api.OK || s != strings.Repeat(line+"\n", api.MaxAsks) {
		t.Fatalf("Text of the widest requests: %.1000q, %v", s, err)
	}
	if want := len("install ") + api.MaxName + len(" ()") + 16*(len(">= ")+api.MaxVer) + 15*len(" | "); len(line) != want {
		t.Errorf("the widest line has %d bytes; want %d: %s", len(line), want, line)
	}
	if len(s) > api.MaxText { // so MaxText refuses no requests that Check accepts
		t.Errorf("the widest requests have a text of %d bytes", len(s))
	}
	holdText(t, l, s)
}

func TestP901TextRefuses(t *testing.T) {
	for _, c := range []struct {
		a    ask.Ask
		want api.Errno
	}{
		{ask.Ask{}, api.ErrArg},
		{ask.Ask{Kind: 5, Atom: about("a")}, api.ErrArg},
		{ask.Ask{Kind: -1, Atom: about("a")}, api.ErrArg},
		{ask.Ask{Kind: ask.Pin}, api.ErrName},
		{ask.Ask{Kind: ask.Remove, Atom: atom.Atom{Name: "A"}}, api.ErrName},
		{ask.Ask{Kind: ask.Remove, Atom: about("a (= 1)")}, api.ErrArg},
		{ask.Ask{Kind: ask.Upgrade, Atom: atom.Atom{Name: "a"}}, api.ErrArg},
		{ask.Ask{Kind: ask.Upgrade, Atom: atom.Atom{Name: "a", Range: rng.Range{{Lo: "01"}}}}, api.ErrVer},
		{ask.Ask{Kind: ask.Install, Atom: atom.Atom{Name: "a", Range: rng.Range{{}, {}}}}, api.ErrOrder},
		{ask.Ask{Kind: ask.Install, Atom: atom.Atom{Name: "a", Range: versions(17)}}, api.ErrLong},
	} {
		holdTextError(t, []ask.Ask{c.a}, 0, c.want)
		for at := range mixed() {
			l := mixed()
			l[at] = c.a
			holdTextError(t, l, at, c.want)
			// the first request that has an error decides
			holdTextError(t, append(l, ask.Ask{}, ask.Ask{Kind: ask.Pin}), at, c.want)
		}
		l := slices.Repeat(mixed()[:1], api.MaxAsks)
		l[31] = c.a
		holdTextError(t, l, 31, c.want)
		// their number comes ahead of what is wrong with one of them
		holdTextError(t, append(l, mixed()[0]), 0, api.ErrLong)
	}
	holdTextError(t, slices.Repeat(mixed()[:1], api.MaxAsks+1), 0, api.ErrLong)
	holdTextError(t, append(widest(), mixed()[1]), 0, api.ErrLong)
	holdTextError(t, make([]ask.Ask, api.MaxAsks), 0, api.ErrArg)
	holdTextError(t, make([]ask.Ask, api.MaxAsks+1), 0, api.ErrLong)
	holdTextError(t, make([]ask.Ask, 1<<16), 0, api.ErrLong)
}

func TestP901ParseWritesAtomsInTheirForm(t *testing.T) {
	for s, want := range map[string]string{
		"install a (>= 1 | = 0)":               "install a (= 0 | >= 1)",
		"install a (!= 01)":                    "install a (< 1 | > 1)",
		"pin a (> 1 & < 1)":                    "pin a (none)",
		"pin a (< 2 | > 1)":                    "pin a",
		"remove a (< 2 | > 1)":                 "remove a",
		"upgrade a (<= 1 | > 1)":               "upgrade a",
		"upgrade a (!= 1 | = 0:1-0)":           "upgrade a",
		"install a (= 0:1-0 | = 1)":            "install a (= 1)",
		"install a (>= 1 & <= 1)":              "install a (= 1)",
		"pin a (> 1 | > 2 | > 3)":              "pin a (> 1)",
		"install gcc (= 2.95 | >= 4 & != 5.0)": "install gcc (= 2.95 | >= 4 & < 5.0 | > 5.0)",
	} {
		l, line, err := ask.Parse(s + "\n")
		if text, _, _ := ask.Text(l); text != want+"\n" || line != 0 || err != api.OK {
			t.Errorf("Parse(%q): %s, %d, %v; want %q", s, shown(l), line, err, want)
		}
	}
}

func TestP901ParseRefusesALine(t *testing.T) {
	for line, want := range map[string]api.Errno{
		"":           api.ErrForm,
		" ":          api.ErrForm,
		" a":         api.ErrForm,
		"a":          api.ErrForm,
		"install":    api.ErrForm,
		"pin":        api.ErrForm,
		"remove\ta":  api.ErrForm,
		"remove\n a": api.ErrForm,
		"Install a":  api.ErrForm,
		"INSTALL a":  api.ErrForm,
		"installs a": api.ErrForm,
		"instal a":   api.ErrForm,
		"get a":      api.ErrForm,
		"0 a":        api.ErrForm,
		"1 a":        api.ErrForm,
		" install a": api.ErrForm,
		"install\ra": api.ErrForm,
		"pin(none)":  api.ErrForm,
		"\xff a":     api.ErrForm,
		// the word comes ahead of the atom
		"get A":       api.ErrForm,
		"get a (= x)": api.ErrForm,
		"pins A":      api.ErrForm,
		// what atom.Parse refuses
		"install ":                     api.ErrForm,
		"install  a":                   api.ErrForm,
		"install a ":                   api.ErrForm,
		"install a b":                  api.ErrForm,
		"install install a":            api.ErrForm,
		"install a (= 1":               api.ErrForm,
		"install a (= 1) ":             api.ErrForm,
		"install a (= 1) x":            api.ErrForm,
		"install a(= 1)":               api.ErrForm,
		"install a  (= 1)":             api.ErrForm,
		"install a ()":                 api.ErrForm,
		"install a (1)":                api.ErrForm,
		"install A (1)":                api.ErrForm,
		"remove a (1)":                 api.ErrForm,
		"install A":                    api.ErrName,
		"remove a\r":                   api.ErrName,
		"install a\t":                  api.ErrName,
		"install 9":                    api.ErrName,
		"install \xff":                 api.ErrName,
		"remove A (= 1)":               api.ErrName,
		"install " + longName:          api.ErrName,
		"install a (= x)":              api.ErrVer,
		"pin a (= 1 | > 1.)":           api.ErrVer,
		"remove a (= x)":               api.ErrVer,
		"upgrade a (> x)":              api.ErrVer,
		"pin a (= " + longVer + ")":    api.ErrLong,
		"remove a (= " + longVer + ")": api.ErrLong,
		"pin a (= 1" + strings.Repeat(" | = 1", 16) + ")":    api.ErrLong,
		"remove a (= 1" + strings.Repeat(" | = 1", 16) + ")": api.ErrLong,
		// what Check refuses
		"remove a (none)":        api.ErrArg,
		"remove a (= 1)":         api.ErrArg,
		"remove a (!= 1)":        api.ErrArg,
		"remove a (>= 0~)":       api.ErrVer,
		"upgrade a (none)":       api.ErrArg,
		"upgrade a (> 1)":        api.ErrArg,
		"upgrade a (< 1 | >= 2)": api.ErrArg,
	} {
		s := line + "\n"
		holdParseError(t, s, 0, want)
		holdParseError(t, "install a (= 1)\n"+s, 1, want)
		holdParseError(t, "upgrade a\n"+s+"pin c\n", 1, want)
		holdParseError(t, mixedText+s, 6, want)
		holdParseError(t, strings.Repeat("pin a\n", 30)+s, 30, want)
		// the first line that has an error decides
		for _, after := range []string{"x\n", "\n", "pin A\n", "pin a (= x)\n", "remove a (none)\n"} {
			holdParseError(t, "remove b\nremove b\n"+s+after, 2, want)
			holdParseError(t, after+s, 0, errorOf(t, after))
		}
		// the end of the text, and the number of its lines, come ahead of it
		holdParseError(t, s+"x", 0, api.ErrForm)
		holdParseError(t, mixedText+s+" ", 0, api.ErrForm)
		holdParseError(t, s+strings.Repeat("pin a\n", 32), 0, api.ErrLong)
		holdParseError(t, strings.Repeat("pin a\n", 32)+s, 0, api.ErrLong)
	}
}

// errorOf returns the error of a line, as P901 has it.
func errorOf(t *testing.T, s string) api.Errno {
	t.Helper()
	_, _, err := parseByItsWords(s)
	if err == api.OK {
		t.Fatalf("%q has no error", s)
	}
	return err
}

func TestP901ParseRefusesTheWhole(t *testing.T) {
	for _, s := range []string{"x", " ", "install a", "pin", "install a\r", "install a\n ", "install a\ninstall b", "\n\x00", mixedText + "pin a", mixedText[:len(mixedText)-1]} {
		holdParseError(t, s, 0, api.ErrForm)
	}
	line := "pin a\n"
	holdParse(t, strings.Repeat(line, 32), slices.Repeat([]ask.Ask{{Kind: ask.Pin, Atom: about("a")}}, 32))
	for _, n := range []int{33, 34, 64, 10000} {
		holdParseError(t, strings.Repeat(line, n), 0, api.ErrLong)
		holdParseError(t, strings.Repeat("\n", n), 0, api.ErrLong)
		holdParseError(t, strings.Repeat("x\n", n), 0, api.ErrLong)
		// the end comes ahead of the number of lines
		holdParseError(t, strings.Repeat(line, n)+"x", 0, api.ErrForm)
	}
	// an empty line counts as one
	holdParseError(t, strings.Repeat(line, 31)+"\n", 31, api.ErrForm)
	holdParseError(t, strings.Repeat(line, 32)+"\n", 0, api.ErrLong)
	// without its end, the 33rd is no line
	holdParseError(t, strings.Repeat(line, 32)+"pin a", 0, api.ErrForm)
}

func TestP901ParseOfLongTexts(t *testing.T) {
	for _, n := range []int{api.MaxText - 1, api.MaxText} {
		holdParseError(t, strings.Repeat("x", n), 0, api.ErrForm)
		holdParseError(t, strings.Repeat("\n", n), 0, api.ErrLong)
		holdParseError(t, strings.Repeat("\n", n-1)+"x", 0, api.ErrForm)
		holdParseError(t, "install "+strings.Repeat("a", n-9)+"\n", 0, api.ErrName)
		holdParseError(t, "pin a\ninstall "+strings.Repeat("a", n-15)+"\n", 1, api.ErrName)
		holdParseError(t, "pin a\npin a (= "+strings.Repeat("1", n-17)+")\n", 1, api.ErrLong)
		holdParseError(t, "pin a\npin a"+strings.Repeat(" ", n-12)+"\n", 1, api.ErrForm)
	}
	for _, n := range []int{api.MaxText + 1, api.MaxText + 2, 4 * api.MaxText} {
		for _, s := range []string{
			strings.Repeat("x", n), strings.Repeat("\n", n), strings.Repeat("\n", n-1) + "x",
			"pin a\npin a" + strings.Repeat(" ", n-12) + "\n", "x\n" + strings.Repeat("x", n-2),
		} {
			holdParseError(t, s, 0, api.ErrLong)
		}
	}
	// a text that is as long as it may be, with a line for each request
	var s string
	for range 31 {
		s += "pin a (" + strings.Repeat("= 1 | ", 15) + "= 1)\n"
	}
	holdParse(t, s, slices.Repeat([]ask.Ask{{Kind: ask.Pin, Atom: about("a (= 1)")}}, 31))
	s += strings.Repeat("x", api.MaxText-len(s)-1) + "\n"
	holdParseError(t, s, 31, api.ErrForm)
	holdParseError(t, "x"+s, 0, api.ErrLong)
}

// parseByItsWords does what P901 says of Parse, word by word.
func parseByItsWords(s string) ([]ask.Ask, int, api.Errno) {
	if len(s) > 65536 {
		return nil, 0, api.ErrLong
	}
	if s != "" && s[len(s)-1] != 0x0A {
		return nil, 0, api.ErrForm
	}
	if strings.Count(s, "\n") > 32 {
		return nil, 0, api.ErrLong
	}
	var l []ask.Ask
	for i, line := range strings.SplitAfter(s, "\n")[:strings.Count(s, "\n")] {
		line = line[:len(line)-1]
		var a ask.Ask
		rest := ""
		for word, kind := range map[string]int{"install": 1, "remove": 2, "upgrade": 3, "pin": 4} {
			if strings.HasPrefix(line, word+" ") {
				a.Kind, rest = kind, line[len(word)+1:]
			}
		}
		if a.Kind == 0 {
			return nil, i, api.ErrForm
		}
		read, err := atom.Parse(rest)
		if err != api.OK {
			return nil, i, err
		}
		a.Atom = read
		if err := checkByItsWords(a); err != api.OK {
			return nil, i, err
		}
		l = append(l, a)
	}
	return l, 0, api.OK
}

// anyText strings together lines that mostly fit.
func anyText(random *rand.Rand) string {
	pick := func(often []string, seldom ...string) string {
		if random.Intn(30) > 0 {
			return often[random.Intn(len(often))]
		}
		return seldom[random.Intn(len(seldom))]
	}
	n := random.Intn(8)
	if random.Intn(20) == 0 {
		n = 30 + random.Intn(5)
	}
	var s strings.Builder
	for range n {
		word := pick([]string{"install", "remove", "upgrade", "pin"}, "", "Pin", "get", "install ", "re", "pin\t")
		s.WriteString(word + pick([]string{" "}, "", "  ", "\t", "\n"))
		s.WriteString(pick([]string{"a", "b-9", "install", "lib"}, "", "A", " ", "9", longName, "\xff"))
		ranges := []string{"", " (<= 1 | > 1)", " (!= 1 | = 1)"}
		if word == "install" || word == "pin" {
			ranges = []string{"", " (none)", " (= 1)", " (>= 1 | = 0)", " (!= 02 & < 3-1)", " (> 1 & < 1)"}
		}
		s.WriteString(pick(ranges, " ", " (", " ()", " (none)", " (= 1)", " (> 1", " (= x)", " (= "+longVer+")", " (= 1) ", " (= 1 |= 2)"))
		s.WriteString(pick([]string{"\n"}, "", "\n\n", "\r\n", " \n"))
	}
	return s.String()
}

func TestP901ParseAgainstItsWords(t *testing.T) {
	random := rand.New(rand.NewSource(901))
	told := map[api.Errno]int{}
	for range 30000 {
		s := anyText(random)
		want, line, wrong := parseByItsWords(s)
		l, i, err := ask.Parse(s)
		if !ask.Same(l, want) || i != line || err != wrong {
			t.Fatalf("Parse(%q): %s, %d, %v; want %s, %d, %v", s, shown(l), i, err, shown(want), line, wrong)
		}
		told[err]++
		if err != api.OK {
			continue
		}
		text, i, err := ask.Text(l)
		if again, _, wrong := ask.Parse(text); !ask.Same(again, l) || i != 0 || err != api.OK || wrong != api.OK {
			t.Fatalf("Text of what Parse(%q) returns: %q, %d, %v; read again: %s, %v", s, text, i, err, shown(again), wrong)
		}
	}
	for _, err := range []api.Errno{api.OK, api.ErrForm, api.ErrName, api.ErrVer, api.ErrLong, api.ErrArg} {
		if told[err] < 100 {
			t.Errorf("%v came up %d times only", err, told[err])
		}
	}
}

// textByItsWords does what P901 says of Text, word by word.
func textByItsWords(l []ask.Ask) (string, int, api.Errno) {
	if len(l) > 32 {
		return "", 0, api.ErrLong
	}
	s := ""
	for i, a := range l {
		if err := checkByItsWords(a); err != api.OK {
			return "", i, err
		}
		s += []string{"", "install", "remove", "upgrade", "pin"}[a.Kind] + " " + atom.Text(a.Atom) + "\n"
	}
	return s, 0, api.OK
}

func TestP901TextAgainstItsWords(t *testing.T) {
	random := rand.New(rand.NewSource(9012))
	atoms := []atom.Atom{
		about("a"), about("b-9"), about("lib"), about("a (= 1)"), about("a (none)"), about("b (> 1 & < 2 | >= 3)"), about("c (!= 1:0~a0-2)"),
		{}, {Name: "A"}, {Name: "a", Range: rng.Range{{Lo: "01"}}}, {Name: "a", Range: versions(17)}, {Name: "a", Range: rng.Range{{}, {}}},
	}
	told := map[api.Errno]int{}
	for range 20000 {
		var l []ask.Ask
		n := random.Intn(10)
		if random.Intn(20) == 0 {
			n = 31 + random.Intn(3)
		}
		for range n {
			a := ask.Ask{Kind: kinds[random.Intn(4)], Atom: atoms[random.Intn(3)]}
			if a.Kind == ask.Install || a.Kind == ask.Pin {
				a.Atom = atoms[random.Intn(7)]
			}
			if random.Intn(20) == 0 {
				a.Atom = atoms[random.Intn(len(atoms))]
			}
			if random.Intn(100) == 0 {
				a.Kind = noKinds[random.Intn(len(noKinds))]
			}
			l = append(l, a)
		}
		want, index, wrong := textByItsWords(l)
		s, i, err := ask.Text(l)
		if s != want || i != index || err != wrong {
			t.Fatalf("Text(%s): %q, %d, %v; want %q, %d, %v", shown(l), s, i, err, want, index, wrong)
		}
		told[err]++
		if err == api.OK {
			holdParse(t, s, l)
		}
	}
	for _, err := range []api.Errno{api.OK, api.ErrName, api.ErrVer, api.ErrLong, api.ErrArg, api.ErrOrder} {
		if told[err] < 100 {
			t.Errorf("%v came up %d times only", err, told[err])
		}
	}
}

func TestP1AnyTexts(t *testing.T) {
	pieces := []string{
		"", "\n", " ", "install", "install a", "pin a (none)\n", "remove b\n", " (", "= 1)", " | ", "\x00", "\xff\n", "é a\n",
		strings.Repeat("pin a\n", 32), strings.Repeat("\n", 1<<16), strings.Repeat("(= 1", 1<<12),
	}
	for _, a := range pieces {
		for _, b := range pieces {
			for _, c := range pieces {
				s := a + b + c
				want, line, wrong := parseByItsWords(s)
				if l, i, err := ask.Parse(s); !ask.Same(l, want) || i != line || err != wrong {
					t.Fatalf("Parse(%.200q): %s, %d, %v; want %d, %v", s, shown(l), i, err, line, wrong)
				}
			}
		}
	}
}
