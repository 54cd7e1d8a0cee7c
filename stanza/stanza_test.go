package stanza_test

import (
	"slices"
	"strconv"
	"strings"
	"testing"
	"unsafe"

	"manciple/api"
	"manciple/stanza"
)

// fields returns a stanza of fields without values.
func fields(keys ...string) stanza.Stanza {
	var s stanza.Stanza
	for i, key := range keys {
		s = append(s, stanza.Field{Key: key, Line: i})
	}
	return s
}

// word returns the n-th of many keys; none of them is another one.
func word(n int) string {
	const letters = "ABCDEFGHIJKLMNOPQRSTUVWXYZabcdefghijklmnopqrstuvwxyz"
	return letters[n/52%52:n/52%52+1] + letters[n%52:n%52+1] + strings.Repeat("x", n/2704)
}

func TestP501Print(t *testing.T) {
	for want, l := range map[string][]stanza.Stanza{
		"":                          nil,
		"A: \n":                     {{{Key: "A"}}},
		"A: b\n":                    {{{Key: "A", Value: "b"}}},
		"A:  b \n":                  {{{Key: "A", Value: " b "}}},
		"A: b\nC: d: e\n":           {{{Key: "A", Value: "b"}, {Key: "C", Value: "d: e", Line: 1}}},
		"A: b\n\nA: x\n":            {{{Key: "A", Value: "b"}}, {{Key: "A", Value: "x", Line: 2}}},
		"A: \n\nB: \nA: \n\nC: ~\n": {{{Key: "A"}}, {{Key: "B", Line: 2}, {Key: "A", Line: 3}}, {{Key: "C", Value: "~", Line: 5}}},
	} {
		if s := stanza.Print(l); s != want {
			t.Errorf("Print(%v): %q; want %q", l, s, want)
		}
		for _, s := range l {
			for i := range s {
				s[i].Line = 1000 - s[i].Line
			}
		}
		if s := stanza.Print(l); s != want {
			t.Errorf("Print with other lines: %q; want %q", s, want)
		}
	}
}

func TestP501Get(t *testing.T) {
	s := stanza.Stanza{
		{Key: "B", Value: "1", Line: 7}, {Key: "A", Value: "2", Line: 3}, {Key: "B", Value: "3", Line: 1}, {Key: "", Value: "4"},
		{Key: "a", Value: "5", Line: -1}, {Key: "AB", Value: "", Line: 0}, {Key: "\xff ", Value: "\n", Line: 9},
	}
	for key, want := range map[string]int{"B": 0, "A": 1, "": 3, "a": 4, "AB": 5, "\xff ": 6} {
		if f, ok := stanza.Get(s, key); f != s[want] || !ok {
			t.Errorf("Get of %q: %v, %v; want %v", key, f, ok, s[want])
		}
	}
	for _, key := range []string{"b", "C", "AA", "BA", "ab", "AB ", " A", "A: ", "1", "\xff"} {
		if f, ok := stanza.Get(s, key); f != (stanza.Field{}) || ok {
			t.Errorf("Get of %q: %v, %v", key, f, ok)
		}
	}
	for _, s := range []stanza.Stanza{nil, {}} {
		if f, ok := stanza.Get(s, ""); f != (stanza.Field{}) || ok {
			t.Errorf("Get of a stanza without fields: %v, %v", f, ok)
		}
	}
}

func TestP501Order(t *testing.T) {
	keys := []string{"A", "B", "C", "B", "", "D", "A"}
	for i, c := range []struct {
		s     []string
		index int
		want  api.Errno
	}{
		{nil, 0, api.OK},
		{[]string{"A"}, 0, api.OK},
		{[]string{"D"}, 0, api.OK},
		{[]string{"A", "B", "C", "", "D"}, 0, api.OK},
		{[]string{"A", "C"}, 0, api.OK},
		{[]string{"B", "D"}, 0, api.OK},
		{[]string{"", "D"}, 0, api.OK},

		{[]string{"X"}, 0, api.ErrField},
		{[]string{"a"}, 0, api.ErrField},
		{[]string{"A "}, 0, api.ErrField},
		{[]string{"\xff"}, 0, api.ErrField},
		{[]string{"A", "X"}, 1, api.ErrField},
		{[]string{"A", "B", "X", "A"}, 2, api.ErrField},
		{[]string{"X", "B", "A"}, 0, api.ErrField},
		{[]string{"X", "Y"}, 0, api.ErrField},
		{[]string{"A", "A", "X"}, 1, api.ErrOrder},
		{[]string{"A", "X", "A"}, 1, api.ErrField},
		{[]string{"X", "X"}, 0, api.ErrField},

		{[]string{"A", "A"}, 1, api.ErrOrder},
		{[]string{"B", "A"}, 1, api.ErrOrder},
		{[]string{"D", "A"}, 1, api.ErrOrder},
		{[]string{"A", "D", "A"}, 2, api.ErrOrder},
		{[]string{"C", "B"}, 1, api.ErrOrder},
		{[]string{"B", "C", "B"}, 2, api.ErrOrder},
		{[]string{"B", "B"}, 1, api.ErrOrder},
		{[]string{"B", "A", "X"}, 1, api.ErrOrder},
		{[]string{"C", "A", "B"}, 1, api.ErrOrder},
		{[]string{"A", "B", "C", "D", "C"}, 4, api.ErrOrder},
	} {
		if index, err := stanza.Order(fields(c.s...), keys); index != c.index || err != c.want {
			t.Errorf("%d: Order(%q): %d, %v; want %d, %v", i, c.s, index, err, c.index, c.want)
		}
	}
}

func TestP501OrderWithoutKeys(t *testing.T) {
	for _, keys := range [][]string{nil, {}} {
		if index, err := stanza.Order(nil, keys); index != 0 || err != api.OK {
			t.Errorf("Order of no fields: %d, %v", index, err)
		}
		if index, err := stanza.Order(fields("A"), keys); index != 0 || err != api.ErrField {
			t.Errorf("Order of a field: %d, %v", index, err)
		}
	}
}

// TestP501OrderAgainstItsWords holds every short stanza against every short list
// of keys.
func TestP501OrderAgainstItsWords(t *testing.T) {
	all := lists([]string{"A", "B", "C"}, 4)
	for _, keys := range all {
		for _, s := range all {
			index, want := orderByItsWords(s, keys)
			if i, err := stanza.Order(fields(s...), keys); i != index || err != want {
				t.Fatalf("Order(%q, %q): %d, %v; want %d, %v", s, keys, i, err, index, want)
			}
		}
	}
}

func orderByItsWords(s, keys []string) (int, api.Errno) {
	for i, key := range s {
		if !slices.Contains(keys, key) {
			return i, api.ErrField
		}
		if i > 0 && slices.Index(keys, key) <= slices.Index(keys, s[i-1]) {
			return i, api.ErrOrder
		}
	}
	return 0, api.OK
}

// lists returns every list of at most n of the words.
func lists(words []string, n int) [][]string {
	all := [][]string{nil}
	last := all
	for range n {
		var next [][]string
		for _, l := range last {
			for _, w := range words {
				next = append(next, append(slices.Clone(l), w))
			}
		}
		all = append(all, next...)
		last = next
	}
	return all
}

func TestP2ArgumentsStayAsTheyAre(t *testing.T) {
	spare := stanza.Field{Key: "spare"}
	s := append(fields("B", "A", "B"), spare, spare)[:3]
	l := []stanza.Stanza{s, nil, s[1:2], fields("spare")}[:3]
	keys := []string{"A", "B", "spare"}[:2]
	before := slices.Clone(s[:5])
	stanza.Get(s, "B")
	stanza.Order(s, keys)
	stanza.Print(l)
	if !slices.Equal(s[:5], before) || !slices.Equal(keys[:3], []string{"A", "B", "spare"}) {
		t.Errorf("%v and %v are now %v and %v", before, "A B", s[:5], keys[:3])
	}
	if len(l[0]) != 3 || l[1] != nil || len(l[2]) != 1 || l[:4][3][0].Key != "spare" {
		t.Errorf("the list is now %v", l[:4])
	}
}

// isIn tells whether v has a byte in the memory of s.
func isIn(v, s string) bool {
	first := func(s string) uintptr { return uintptr(unsafe.Pointer(unsafe.StringData(s))) }
	return v != "" && s != "" && first(v) < first(s)+uintptr(len(s)) && first(s) < first(v)+uintptr(len(v))
}

func TestP2ResultsAreNewMemory(t *testing.T) {
	text := strings.Clone("Name: ab\nOther: cd\n\nName: ef\n")
	l, _, _ := stanza.Parse(text)
	for _, f := range slices.Concat(l...) {
		if isIn(f.Key, text) || isIn(f.Value, text) {
			t.Errorf("Parse: the field %v lies in the memory of the text", f)
		}
	}
	if f, _ := stanza.Get(l[0], "Other"); isIn(f.Key, l[0][1].Key) || isIn(f.Value, l[0][1].Value) {
		t.Errorf("Get: the field %v lies in the memory of the stanza", f)
	}
	for _, value := range []string{"", "ab"} {
		one := []stanza.Stanza{{{Key: strings.Clone("Name"), Value: value}}}
		if s := stanza.Print(one); isIn(s, one[0][0].Key) || isIn(s, one[0][0].Value) {
			t.Errorf("Print: %q lies in the memory of its field", s)
		}
	}
}

func TestP2StanzasShareNoMemory(t *testing.T) {
	const text = "A: 1\nB: 2\nC: 3\n\nA: 4\n\nA: 5\nB: 6\n"
	l, _, _ := stanza.Parse(text)
	again, _, _ := stanza.Parse(text)
	if len(l) != 3 || len(again) != 3 {
		t.Fatalf("%d and %d stanzas", len(l), len(again))
	}
	for i := range l {
		spilt := l[i][:cap(l[i])]
		for k := range spilt {
			spilt[k] = stanza.Field{Key: "spilt"}
		}
		if stanza.Print(again) != text || stanza.Print(l[i+1:]) != stanza.Print(again[i+1:]) {
			t.Errorf("stanza %d shares memory with another one", i)
		}
	}
	whole := l[:cap(l)]
	for i := range whole {
		whole[i] = fields("spilt")
	}
	if stanza.Print(again) != text {
		t.Error("two calls share the memory of a list")
	}
}

func TestP3SameCallsSameResults(t *testing.T) {
	const wrong = "A: 1\n\nB: 2\nB: 3\n"
	for range 3 {
		if l, line, err := stanza.Parse(wrong); l != nil || line != 3 || err != api.ErrTwice {
			t.Errorf("Parse: %v, %d, %v", l, line, err)
		}
		if l, line, err := stanza.Parse("A: 1\n"); len(l) != 1 || line != 0 || err != api.OK {
			t.Errorf("Parse: %v, %d, %v", l, line, err)
		}
		if i, err := stanza.Order(fields("A", "B", "A"), []string{"A", "B"}); i != 2 || err != api.ErrOrder {
			t.Errorf("Order: %d, %v", i, err)
		}
	}
}

func TestP1AnyFields(t *testing.T) {
	texts := []string{"", "A", "a1", ": ", "\n", "\x00", "\xff", "é", strings.Repeat("A", 1<<16)}
	for _, key := range texts {
		for _, value := range texts {
			for _, line := range []int{0, -1, 1 << 62} {
				f := stanza.Field{Key: key, Value: value, Line: line}
				for _, s := range []stanza.Stanza{{f}, {f, f}, {{}, f}} {
					if got, ok := stanza.Get(s, key); !ok || got.Key != key {
						t.Fatalf("Get of %q: %v, %v", key, got, ok)
					}
					stanza.Print([]stanza.Stanza{s, nil, {}, s})
					stanza.Order(s, texts)
				}
			}
		}
	}
	stanza.Print(make([]stanza.Stanza, 1000))
}

func TestP1ManyFieldsAndKeys(t *testing.T) {
	var s stanza.Stanza
	var keys []string
	for i := range 1 << 17 {
		keys = append(keys, strconv.Itoa(i))
		s = append(s, stanza.Field{Key: keys[i]})
	}
	if i, err := stanza.Order(s, keys); i != 0 || err != api.OK {
		t.Errorf("Order: %d, %v", i, err)
	}
	slices.Reverse(keys)
	if i, err := stanza.Order(s, keys); i != 1 || err != api.ErrOrder {
		t.Errorf("Order of keys the other way round: %d, %v", i, err)
	}
	if i, err := stanza.Order(append(s, s[0]), append(keys, keys...)); i != 1 || err != api.ErrOrder {
		t.Errorf("Order of keys that occur repeatedly: %d, %v", i, err)
	}
}
