package stanza_test

import (
	"math/rand"
	"regexp"
	"slices"
	"strings"
	"testing"

	"manciple/api"
	"manciple/stanza"
)

func same(a, b []stanza.Stanza) bool {
	return slices.EqualFunc(a, b, func(s, r stanza.Stanza) bool { return slices.Equal(s, r) })
}

// holdBothWays tells whether a text is read as those stanzas and written again.
func holdBothWays(t *testing.T, s string, want []stanza.Stanza) {
	t.Helper()
	l, line, err := stanza.Parse(s)
	if !same(l, want) || line != 0 || err != api.OK {
		t.Errorf("Parse(%q): %v, %d, %v; want %v", s, l, line, err, want)
	}
	if again := stanza.Print(l); again != s {
		t.Errorf("Print of the stanzas of %q: %q", s, again)
	}
}

// holdError tells whether Parse answers the error and its line and no stanzas.
func holdError(t *testing.T, s string, line int, want api.Errno) {
	t.Helper()
	if l, i, err := stanza.Parse(s); l != nil || i != line || err != want {
		t.Errorf("Parse(%.80q): %d stanzas, %d, %v; want %d, %v", s, len(l), i, err, line, want)
	}
}

func TestP501Parse(t *testing.T) {
	one := func(key, value string) []stanza.Stanza { return []stanza.Stanza{{{Key: key, Value: value}}} }
	for s, want := range map[string][]stanza.Stanza{
		"":                     nil,
		"A: b\n":               one("A", "b"),
		"z: Z\n":               one("z", "Z"),
		"A: \n":                one("A", ""),
		"A:  \n":               one("A", " "),
		"A:  b \n":             one("A", " b "),
		"A: :\n":               one("A", ":"),
		"A: : \n":              one("A", ": "),
		"A: B: c\n":            one("A", "B: c"),
		"aZAz: ~! \n":          one("aZAz", "~! "),
		"abcdefghijklmnop: \n": one("abcdefghijklmnop", ""),
		"A: b\nC: d: e\n\nA: x\n": {
			{{Key: "A", Value: "b"}, {Key: "C", Value: "d: e", Line: 1}},
			{{Key: "A", Value: "x", Line: 3}},
		},
		"A: b\nC: d\n\nA: b\nC: d\n": {
			{{Key: "A", Value: "b"}, {Key: "C", Value: "d", Line: 1}},
			{{Key: "A", Value: "b", Line: 3}, {Key: "C", Value: "d", Line: 4}},
		},
		"C: \nA: \n\nB: \n\nA: \na: \nAa: \n": {
			{{Key: "C"}, {Key: "A", Line: 1}},
			{{Key: "B", Line: 3}},
			{{Key: "A", Line: 5}, {Key: "a", Line: 6}, {Key: "Aa", Line: 7}},
		},
	} {
		holdBothWays(t, s, want)
	}
}

func TestP501ParseOfNoForm(t *testing.T) {
	for s, line := range map[string]int{
		// the last byte is looked at before any line
		"A": 0, "A: b": 0, "A: b\nC: d": 0, "A: b\n\nA: b\nA: c": 0, "A: b\n\n\nC": 0, " ": 0, "\n ": 0, "A: b\r": 0, "A: b\n\x00": 0,
		// empty lines
		"\n": 0, "\n\n": 0, "\n\n\n": 0, "\nA: b\n": 0, "\n\nA: b\n": 0,
		"A: b\n\n": 1, "A: b\nC: d\n\n": 2, "A: b\n\nA: c\n\n": 3,
		"A: b\n\n\n": 2, "A: b\n\n\n\n": 2, "A: b\n\n\nC: d\n": 2, "A: b\n\nC: d\n\n\nE: f\n": 4,
		// lines that are no fields
		" \n": 0, "A\n": 0, "A:\n": 0, "A:b\n": 0, "A b\n": 0, "A : b\n": 0, " A: b\n": 0, ": b\n": 0, ":\n": 0, ": \n": 0, "A:b: c\n": 0, "A:: b\n": 0,
		"A1: b\n": 0, "1: b\n": 0, "A-B: c\n": 0, "A_: b\n": 0, "A B: c\n": 0, "A\x00: b\n": 0, "é: b\n": 0, "A\xff: b\n": 0, "A:\tb\n": 0, "A:\x00b\n": 0,
		"abcdefghijklmnopq: \n": 0, "A: \t\n": 0, "A: \r\n": 0, "A: b\r\n": 0, "A: \x00\n": 0, "A: b\x1f\n": 0, "A: \x7f\n": 0, "A: \x80\n": 0, "A: é\n": 0, "A: \xff\n": 0,
		"A: b\nC\n": 1, "A: b\n C: d\n": 1, "A: b\n \nC: d\n": 1, "A: b\n\n C: d\n": 2, "A: b\n\nC: d\nE: \x7f\n": 3,
		// the first line that is wrong decides
		"A\nB\n": 0, "A: b\nC\nD\n": 1, "A: b\nC\n\n": 1, "A: b\n\n\nC\n": 2, "A\nB: \nB: \n": 0, "A: b\nC\nA: b\n": 1,
	} {
		holdError(t, s, line, api.ErrForm)
	}
}

func TestP501ParseOfAKeyTwice(t *testing.T) {
	for s, line := range map[string]int{
		"A: b\nA: b\n":                             1,
		"A: b\nA: c\n":                             1,
		"A: \nA: \nA: \n":                          1,
		"A: b\nC: d\nA: e\n":                       2,
		"A: b\nC: d\nC: e\n":                       2,
		"A: b\n\nC: d\nC: e\n":                     3,
		"A: b\n\nA: c\nB: d\nA: e\n":               4,
		"abcdefghijklmnop: \nabcdefghijklmnop: \n": 1,
		// the first line that is wrong decides
		"A: b\nA: c\n\n":     1,
		"A: b\nA: c\nD\n":    1,
		"A: b\nA: c\n\n\n":   1,
		"A: \nA: \n\x7f: \n": 1,
	} {
		holdError(t, s, line, api.ErrTwice)
	}
	// what is no field has no KEY
	holdError(t, "A: b\nA: \x01\n", 1, api.ErrForm)
	holdError(t, "A: b\nA:c\n", 1, api.ErrForm)
	holdError(t, "A: b\nC: \xff\nA: d\n", 1, api.ErrForm)
}

func TestP501ParseOfEveryByte(t *testing.T) {
	for c := range 256 {
		s := string([]byte{byte(c)})
		if c == '\n' {
			continue
		}
		isLetter := 'A' <= c && c <= 'Z' || 'a' <= c && c <= 'z'
		for _, key := range []string{s, "a" + s, s + "a", "a" + s + "a"} {
			if isLetter {
				holdBothWays(t, key+": v\n", []stanza.Stanza{{{Key: key, Value: "v"}}})
			} else {
				holdError(t, key+": v\n", 0, api.ErrForm)
			}
		}
		for _, value := range []string{s, "a" + s, s + "a", " " + s + " "} {
			if 0x20 <= c && c <= 0x7E {
				holdBothWays(t, "K: "+value+"\n", []stanza.Stanza{{{Key: "K", Value: value}}})
			} else {
				holdError(t, "K: "+value+"\n", 0, api.ErrForm)
			}
		}
	}
}

func TestP501ParseOfKeysByLength(t *testing.T) {
	for n := range 40 {
		key := strings.Repeat("k", n)
		if 1 <= n && n <= 16 {
			holdBothWays(t, key+": v\n", []stanza.Stanza{{{Key: key, Value: "v"}}})
		} else {
			holdError(t, key+": v\n", 0, api.ErrForm)
		}
	}
}

func TestP501ParseLengthComesFirst(t *testing.T) {
	value := strings.Repeat("x", api.MaxText-len("A: \n"))
	longest := "A: " + value + "\n"
	if len(longest) != api.MaxText {
		t.Fatalf("the test's longest text has %d bytes", len(longest))
	}
	holdBothWays(t, longest, []stanza.Stanza{{{Key: "A", Value: value}}})
	for _, s := range []string{
		"A: x" + value + "\n", "A: xy" + value, longest + " ", "\n" + longest, longest + "\n", longest + longest,
		"A: b\nA: b\n" + longest, strings.Repeat("\n", api.MaxText+1), strings.Repeat("\xff", 1<<20),
	} {
		holdError(t, s, 0, api.ErrLong)
	}
	holdError(t, longest[:api.MaxText-1], 0, api.ErrForm)
	holdError(t, "A: x"+value, 0, api.ErrForm)
	holdError(t, longest[:api.MaxText-2]+"\x7f\n", 0, api.ErrForm)
	holdError(t, longest[:api.MaxText-2]+"\n\n", 1, api.ErrForm)
	holdError(t, strings.Repeat("\n", api.MaxText), 0, api.ErrForm)
}

func TestP501ParseOfManyFields(t *testing.T) {
	var one, each strings.Builder
	var fields stanza.Stanza
	n := 0
	for one.Len() < api.MaxText-32 {
		one.WriteString(word(n) + ": \n")
		fields = append(fields, stanza.Field{Key: word(n), Line: n})
		n++
	}
	holdBothWays(t, one.String(), []stanza.Stanza{fields})
	holdError(t, one.String()+word(0)+": \n", n, api.ErrTwice)
	holdError(t, one.String()+word(n-1)+": \n", n, api.ErrTwice)
	holdError(t, one.String()+"\n", n, api.ErrForm)

	var l []stanza.Stanza
	each.WriteString("A: \n")
	l = append(l, stanza.Stanza{{Key: "A"}})
	for each.Len() < api.MaxText-32 {
		l = append(l, stanza.Stanza{{Key: "A", Line: 2 * len(l)}})
		each.WriteString("\nA: \n")
	}
	holdBothWays(t, each.String(), l)
	holdError(t, each.String()+"A: \n", 2*len(l)-1, api.ErrTwice)
	holdError(t, each.String()+"\n\n", 2*len(l), api.ErrForm)
}

var form = regexp.MustCompile(`^([A-Za-z]{1,16}): ([\x20-\x7E]*)$`)

// read does what P501 says, word by word.
func read(s string) ([]stanza.Stanza, int, api.Errno) {
	if s == "" {
		return nil, 0, api.OK
	}
	if !strings.HasSuffix(s, "\n") {
		return nil, 0, api.ErrForm
	}
	lines := strings.Split(strings.TrimSuffix(s, "\n"), "\n")
	l := []stanza.Stanza{nil}
	for i, line := range lines {
		last := &l[len(l)-1]
		m := form.FindStringSubmatch(line)
		switch {
		case line == "" && (i == 0 || i == len(lines)-1 || lines[i-1] == ""):
			return nil, i, api.ErrForm
		case line == "":
			l = append(l, nil)
		case m == nil:
			return nil, i, api.ErrForm
		case slices.ContainsFunc(*last, func(f stanza.Field) bool { return f.Key == m[1] }):
			return nil, i, api.ErrTwice
		default:
			*last = append(*last, stanza.Field{Key: m[1], Value: m[2], Line: i})
		}
	}
	return l, 0, api.OK
}

// holdAgainstRead returns what Parse answers; it stops the test if read answers
// anything else.
func holdAgainstRead(t *testing.T, s string) api.Errno {
	t.Helper()
	l, line, err := stanza.Parse(s)
	want, wantLine, wantErr := read(s)
	if !same(l, want) || line != wantLine || err != wantErr {
		t.Fatalf("Parse(%q): %v, %d, %v; want %v, %d, %v", s, l, line, err, want, wantLine, wantErr)
	}
	if again := stanza.Print(l); err == api.OK && again != s {
		t.Fatalf("Print of the stanzas of %q: %q", s, again)
	}
	return err
}

func TestP501ParseOfEveryShortText(t *testing.T) {
	for _, pieces := range []struct {
		words []string
		most  int
	}{
		{[]string{"A", ":", " ", "\n", "~", "\x7f"}, 7},
		{[]string{"A: \n", "b: c\n", "\n", "A:\n", "A"}, 7},
	} {
		for _, l := range lists(pieces.words, pieces.most) {
			holdAgainstRead(t, strings.Join(l, ""))
		}
	}
}

// anyText strings together lines that mostly fit.
func anyText(source *rand.Rand) string {
	keys := []string{"A", "B", "C", "a", "b", "Name", "Version", "abcdefghijklmnop"}
	values := []string{"", " ", "x", "1.0", "a: b", "~", ": ", "a (>= 1 & < 2)"}
	seldom := []string{" ", "A", "A:", "A:b", ": b", "\n", "\n\n", " A: b", "A1: b", "A: \x7f", "A: é", "abcdefghijklmnopq: b"}
	var s strings.Builder
	for range source.Intn(9) {
		switch source.Intn(32) {
		case 0:
			s.WriteString(seldom[source.Intn(len(seldom))])
		case 1, 2, 3, 4, 5, 6:
			s.WriteString("\n" + "x: y")
		default:
			s.WriteString(keys[source.Intn(len(keys))] + ": " + values[source.Intn(len(values))])
		}
		s.WriteString("\n")
	}
	if source.Intn(24) == 0 {
		s.WriteString("A: b")
	}
	return s.String()
}

func TestP501ParseAgainstItsWords(t *testing.T) {
	source := rand.New(rand.NewSource(501))
	seen := map[api.Errno]int{}
	for range 60000 {
		seen[holdAgainstRead(t, anyText(source))]++
	}
	for _, err := range []api.Errno{api.OK, api.ErrForm, api.ErrTwice} {
		if seen[err] < 100 {
			t.Errorf("%v came up %d times only", err, seen[err])
		}
	}
}
