package lock_test

import (
	"fmt"
	"math/rand"
	"slices"
	"strconv"
	"strings"
	"testing"
	"unsafe"

	"manciple/api"
	"manciple/atom"
	"manciple/lock"
	"manciple/ver"
)

var (
	longName = strings.Repeat("n", api.MaxName+1)
	longVer  = strings.Repeat("1", api.MaxVer+1)
)

// entries returns a list by its names and versions, each written "NAME VER".
func entries(lines ...string) lock.Lock {
	var l lock.Lock
	for _, s := range lines {
		name, v, _ := strings.Cut(s, " ")
		l = append(l, lock.Entry{Name: name, Ver: v})
	}
	return l
}

// numbered returns n entries that stand in order.
func numbered(n int) lock.Lock {
	var l lock.Lock
	for i := range n {
		l = append(l, lock.Entry{Name: "p" + strconv.Itoa(100+i), Ver: strconv.Itoa(i)})
	}
	return l
}

// longest returns as many entries as may be, with names and versions as long as
// they may be.
func longest() lock.Lock {
	l := numbered(api.MaxPkgs)
	for i := range l {
		l[i] = lock.Entry{Name: l[i].Name + longName[1+len(l[i].Name):], Ver: longVer[1:]}
	}
	return l
}

// shown writes as much of a list as a message can bear.
func shown(l lock.Lock) string { return fmt.Sprintf("%.400s", fmt.Sprintf("%q", l)) }

func holdCheck(t *testing.T, l lock.Lock, index int, want api.Errno) {
	t.Helper()
	if i, err := lock.Check(l); i != index || err != want {
		t.Errorf("Check(%s): %d, %v; want %d, %v", shown(l), i, err, index, want)
	}
}

func TestP801CheckAccepts(t *testing.T) {
	holdCheck(t, nil, 0, api.OK)
	holdCheck(t, lock.Lock{}, 0, api.OK)
	holdCheck(t, entries("a 0"), 0, api.OK)
	holdCheck(t, entries("a 1", "a-b 1:2-3", "b 0"), 0, api.OK)
	holdCheck(t, numbered(api.MaxPkgs), 0, api.OK)
	holdCheck(t, longest(), 0, api.OK)
	// names by bytes, whatever the versions are
	holdCheck(t, entries("a 9", "a- 8", "a-- 7", "a0 6", "a1 5", "a10 4", "a2 3", "aa 2", "b 1", "z 0"), 0, api.OK)
	holdCheck(t, entries("a 1", "b 1", "c 1"), 0, api.OK)
	holdCheck(t, entries("none 1", "sum 0~a0", "sumx 1"), 0, api.OK)
}

func TestP801CheckRefusesAnEntry(t *testing.T) {
	for _, c := range []struct {
		entry string
		want  api.Errno
	}{
		{"", api.ErrName},
		{" 1", api.ErrName},
		{"B 1", api.ErrName},
		{"1 1", api.ErrName},
		{"-b 1", api.ErrName},
		{"b_ 1", api.ErrName},
		{"b\n 1", api.ErrName},
		{"é 1", api.ErrName},
		{longName + " 1", api.ErrName},
		{"b ", api.ErrVer},
		{"b x", api.ErrVer},
		{"b 1-", api.ErrVer},
		{"b 1.", api.ErrVer},
		{"b 1 ", api.ErrVer},
		{"b  1", api.ErrVer},
		{"b 1\n", api.ErrVer},
		{"b " + longVer, api.ErrLong},
		{"b " + strings.Repeat("x", api.MaxVer+1), api.ErrLong},
		// versions that are not in canonical form
		{"b 01", api.ErrVer},
		{"b 00", api.ErrVer},
		{"b 1-0", api.ErrVer},
		{"b 0:1", api.ErrVer},
		{"b 01:1", api.ErrVer},
		{"b 1.02", api.ErrVer},
		{"b 1-1.00", api.ErrVer},
		{"b 0" + longVer[2:], api.ErrVer},
		// the name ahead of the version
		{"B x", api.ErrName},
		{"B 01", api.ErrName},
		{"B " + longVer, api.ErrName},
	} {
		wrong := entries(c.entry)[0]
		holdCheck(t, lock.Lock{wrong}, 0, c.want)
		for at := range 3 {
			l := entries("a 1", "b 1", "c 1")
			l[at] = wrong
			if c.want != api.ErrName {
				l[at].Name = []string{"a", "b", "c"}[at]
			}
			holdCheck(t, l, at, c.want)
			// the first entry that has an error decides
			holdCheck(t, append(l, entries("B 1", "d x", "a 1", "a 1")...), at, c.want)
		}
		// ahead of what the place of the entry is wrong with
		holdCheck(t, lock.Lock{{Name: "b", Ver: "1"}, wrong}, 1, c.want)
		holdCheck(t, lock.Lock{{Name: "c", Ver: "1"}, wrong}, 1, c.want)
	}
}

func TestP801CheckRefusesTheOrder(t *testing.T) {
	for _, c := range []struct {
		lines []string
		index int
		want  api.Errno
	}{
		{[]string{"a 1", "a 1"}, 1, api.ErrTwice},
		{[]string{"a 1", "a 2"}, 1, api.ErrTwice},
		{[]string{"a 2", "a 1"}, 1, api.ErrTwice},
		{[]string{"a 1", "b 1", "b 2"}, 2, api.ErrTwice},
		{[]string{"a 1", "a 1", "a 1"}, 1, api.ErrTwice},
		{[]string{"a 1", "b 1", "b 1", "a 1"}, 2, api.ErrTwice},
		{[]string{"b 1", "a 1"}, 1, api.ErrOrder},
		{[]string{"b 1", "a 2"}, 1, api.ErrOrder},
		{[]string{"a2 1", "a10 1"}, 1, api.ErrOrder},
		{[]string{"aa 1", "a0 1"}, 1, api.ErrOrder},
		{[]string{"a0 1", "a- 1"}, 1, api.ErrOrder},
		{[]string{"ab 1", "a 2"}, 1, api.ErrOrder},
		{[]string{"b 1", "a 1", "a 1"}, 1, api.ErrOrder},
		{[]string{"a 1", "c 1", "b 1", "b x"}, 2, api.ErrOrder},
		// only the entry before is asked
		{[]string{"a 1", "b 1", "a 1"}, 2, api.ErrOrder},
		{[]string{"a 1", "b 1", "c 1", "a 2"}, 3, api.ErrOrder},
	} {
		holdCheck(t, entries(c.lines...), c.index, c.want)
	}
}

func TestP801CheckOfTooMany(t *testing.T) {
	holdCheck(t, numbered(api.MaxPkgs+1), 0, api.ErrLong)
	holdCheck(t, make(lock.Lock, api.MaxPkgs+1), 0, api.ErrLong)
	holdCheck(t, make(lock.Lock, api.MaxPkgs), 0, api.ErrName)
	holdCheck(t, make(lock.Lock, 1<<16), 0, api.ErrLong)
	l := numbered(api.MaxPkgs + 1)
	l[3].Name, l[5].Name, l[9].Ver = "p102", "P", "x"
	holdCheck(t, l, 0, api.ErrLong)
	holdCheck(t, l[1:], 2, api.ErrTwice)
	holdCheck(t, l[4:], 1, api.ErrName)
	holdCheck(t, l[6:], 3, api.ErrVer)
	l = numbered(api.MaxPkgs)
	l[63].Name = "p162"
	holdCheck(t, l, 63, api.ErrTwice)
}

// checkByItsWords does what P801 says of Check, word by word.
func checkByItsWords(l lock.Lock) (int, api.Errno) {
	if len(l) > 64 {
		return 0, api.ErrLong
	}
	for i, e := range l {
		if !atom.Name(e.Name) {
			return i, api.ErrName
		}
		if err := ver.Check(e.Ver); err != api.OK {
			return i, err
		}
		if canon, _ := ver.Canon(e.Ver); e.Ver != canon {
			return i, api.ErrVer
		}
		if i > 0 && e.Name == l[i-1].Name {
			return i, api.ErrTwice
		}
		if i > 0 && e.Name < l[i-1].Name {
			return i, api.ErrOrder
		}
	}
	return 0, api.OK
}

func TestP801CheckAgainstItsWords(t *testing.T) {
	random := rand.New(rand.NewSource(801))
	names := []string{"a", "a-", "a-b", "a0", "ab", "b", "b1", "c", "d", "e", "sum"}
	versions := []string{"0", "1", "1:2-3", "0~1", "10", longVer[1:]}
	told := map[api.Errno]int{}
	for range 30000 {
		var l lock.Lock
		for _, name := range names {
			if random.Intn(2) == 0 {
				l = append(l, lock.Entry{Name: name, Ver: versions[random.Intn(len(versions))]})
			}
		}
		for range random.Intn(3) {
			if len(l) > 1 {
				spoil(random, l)
			}
		}
		index, want := checkByItsWords(l)
		if i, err := lock.Check(l); i != index || err != want {
			t.Fatalf("Check(%v): %d, %v; want %d, %v", l, i, err, index, want)
		}
		told[want]++
	}
	for _, err := range []api.Errno{api.OK, api.ErrName, api.ErrVer, api.ErrLong, api.ErrTwice, api.ErrOrder} {
		if told[err] < 100 {
			t.Errorf("%v came up %d times only", err, told[err])
		}
	}
}

// spoil does something to the entries, by which Check mostly refuses them.
func spoil(random *rand.Rand, l lock.Lock) {
	i, k := random.Intn(len(l)), 1+random.Intn(len(l)-1)
	switch random.Intn(6) {
	case 0:
		l[i].Name = []string{"", "A", "1", longName}[random.Intn(4)]
	case 1:
		l[i].Ver = []string{"", "x", "01", "1-0", "0:1"}[random.Intn(5)]
	case 2:
		l[i].Ver = longVer
	case 3:
		l[k].Name = l[k-1].Name
	case 4:
		l[k], l[k-1] = l[k-1], l[k]
	case 5:
		l[i].Name = l[k].Name
	}
}

func holdGet(t *testing.T, l lock.Lock, name, want string, there bool) {
	t.Helper()
	if v, found := lock.Get(l, name); v != want || found != there {
		t.Errorf("Get(%s, %q): %q, %v; want %q, %v", shown(l), name, v, found, want, there)
	}
}

func TestP801Get(t *testing.T) {
	l := entries("a 1", "a-b 1:2-3", "b 0", "sum 7")
	holdGet(t, l, "a", "1", true)
	holdGet(t, l, "a-b", "1:2-3", true)
	holdGet(t, l, "b", "0", true)
	holdGet(t, l, "sum", "7", true)
	for _, name := range []string{"", "c", "a-", "a-bc", "A", "1", "a 1", "aa", "z", " a", "a\n", longName, "\xff"} {
		holdGet(t, l, name, "", false)
		holdGet(t, nil, name, "", false)
	}
	holdGet(t, nil, "a", "", false)
	holdGet(t, lock.Lock{}, "a", "", false)
	for _, all := range []lock.Lock{numbered(api.MaxPkgs), longest()} {
		for _, e := range all {
			holdGet(t, all, e.Name, e.Ver, true)
			holdGet(t, all, e.Name[:3], "", false)
		}
	}
}

func TestP801Same(t *testing.T) {
	different := []lock.Lock{
		nil, entries("a 1"), entries("a 2"), entries("b 1"), entries("a 1", "b 1"), entries("a 1", "b 2"), entries("b 1", "a 1"),
		entries("a 1", "a 1"), entries("a 1", "b 1", "c 1"), entries("a 01"), entries("A 1"), entries("a 1-0"), entries("a "),
		entries(""), entries("", ""), entries("\xff \xff"), make(lock.Lock, 100), numbered(api.MaxPkgs), numbered(api.MaxPkgs + 1),
	}
	for i, a := range different {
		for k, b := range different {
			if lock.Same(a, slices.Clone(b)) != (i == k) {
				t.Errorf("Same(%s, %s): %v", shown(a), shown(b), i != k)
			}
		}
	}
	if !lock.Same(nil, lock.Lock{}) || !lock.Same(lock.Lock{}, nil) || !lock.Same(nil, nil) {
		t.Error("Same: a nil list is not as an empty one")
	}
}

// isIn tells whether v lies in the memory of s.
func isIn(v, s string) bool {
	first := func(s string) uintptr { return uintptr(unsafe.Pointer(unsafe.StringData(s))) }
	return v != "" && s != "" && first(v) < first(s)+uintptr(len(s)) && first(s) < first(v)+uintptr(len(v))
}

func TestP2ArgumentsStayAsTheyAre(t *testing.T) {
	for _, l := range []lock.Lock{nil, entries("a 1", "b 2"), entries("b 1", "a 1", "a 1", "B 01"), numbered(api.MaxPkgs + 1)} {
		whole := append(slices.Clone(l), entries("spare 2", "spare 1")...)
		before := slices.Clone(whole)
		l = whole[:len(l)]
		lock.Check(l)
		lock.Write(l)
		lock.Get(l, "a")
		lock.Same(l, before)
		lock.Same(before, l)
		if !slices.Equal(whole, before) {
			t.Errorf("%v is now %v", before, whole)
		}
	}
}

func TestP2ResultsAreNewMemory(t *testing.T) {
	l := longest()
	s, _ := lock.Write(l)
	for _, e := range l {
		v, _ := lock.Get(l, e.Name)
		if isIn(v, e.Ver) {
			t.Errorf("Get: %q lies in the list", v)
		}
		if isIn(s, e.Name) || isIn(s, e.Ver) {
			t.Error("Write: the text lies in the list")
		}
	}
	first, _, _ := lock.Read(s)
	for _, e := range first {
		if isIn(e.Name, s) || isIn(e.Ver, s) {
			t.Errorf("Read: %v lies in the text", e)
		}
	}
	again, _, _ := lock.Read(s)
	first = first[:cap(first)]
	for i := range first {
		first[i] = lock.Entry{Name: "spilt"}
	}
	if !lock.Same(again, l) {
		t.Error("Read: two results share memory")
	}
	if third, _, _ := lock.Read(s); !lock.Same(third, l) {
		t.Error("Read: a result is kept")
	}
}

func TestP3SameCallsSameResults(t *testing.T) {
	good := entries("a 1", "b 2")
	for range 3 {
		holdCheck(t, entries("a 1", "b 1", "b 1"), 2, api.ErrTwice)
		holdCheck(t, good, 0, api.OK)
		holdText(t, good, withSum("a 1\nb 2\n"))
		holdReadError(t, withSum("a 1\nb 02\n"), 1, api.ErrVer)
		holdGet(t, good, "b", "2", true)
	}
}

func TestP1AnyLists(t *testing.T) {
	texts := []string{"", "a", "b", "A", "1", "01", "x", " ", "\n", longVer, longName, "\xff", "\x00", "a 1\nb 2\n", strings.Repeat("1", 1<<16)}
	for _, name := range texts {
		for _, v := range texts {
			odd := lock.Entry{Name: name, Ver: v}
			good := lock.Entry{Name: "a", Ver: "1"}
			for _, l := range []lock.Lock{{odd}, {odd, odd}, {good, odd}, {odd, good}, {good, odd, good}, slices.Repeat(lock.Lock{odd}, 65)} {
				index, want := checkByItsWords(l)
				holdCheck(t, l, index, want)
				if s, err := lock.Write(l); err != want || (err == api.OK) != (s != "") {
					t.Errorf("Write(%s): %.80q, %v; want %v", shown(l), s, err, want)
				}
				lock.Get(l, name)
				if !lock.Same(l, l) {
					t.Errorf("Same(%s) of a list and itself", shown(l))
				}
			}
		}
	}
}
