package lock_test

import (
	"fmt"
	"hash/crc32"
	"math/rand"
	"slices"
	"strconv"
	"strings"
	"testing"

	"manciple/api"
	"manciple/lock"
)

// withSum returns lines and the line with their sum.
func withSum(lines string) string {
	return lines + fmt.Sprintf("sum %08x\n", crc32.ChecksumIEEE([]byte(lines)))
}

// holdText tells whether a list is written as that text, and the text read as
// that list.
func holdText(t *testing.T, l lock.Lock, want string) {
	t.Helper()
	if s, err := lock.Write(l); s != want || err != api.OK {
		t.Errorf("Write(%s): %.400q, %v; want %.400q", shown(l), s, err, want)
	}
	if again, line, err := lock.Read(want); !slices.Equal(again, l) || line != 0 || err != api.OK {
		t.Errorf("Read(%.400q): %s, %d, %v; want %s", want, shown(again), line, err, shown(l))
	}
}

// holdReadError tells whether Read answers the error and its line and no
// entries.
func holdReadError(t *testing.T, s string, line int, want api.Errno) {
	t.Helper()
	if l, i, err := lock.Read(s); len(l) != 0 || i != line || err != want {
		t.Errorf("Read(%.400q): %d entries, %d, %v; want %d, %v", s, len(l), i, err, line, want)
	}
}

func TestP801Write(t *testing.T) {
	holdText(t, nil, "sum 00000000\n")
	holdText(t, lock.Lock{}, "sum 00000000\n")
	holdText(t, entries("a 1"), "a 1\nsum "+fmt.Sprintf("%08x", crc32.ChecksumIEEE([]byte("a 1\n")))+"\n")
	holdText(t, entries("a 1", "a-b 1:2-3", "b 0"), withSum("a 1\na-b 1:2-3\nb 0\n"))
	holdText(t, entries("none 1~1", "sum 0", "sumx 999999:0"), withSum("none 1~1\nsum 0\nsumx 999999:0\n"))
	var lines strings.Builder
	for i := range api.MaxPkgs {
		lines.WriteString("p" + strconv.Itoa(100+i) + " " + strconv.Itoa(i) + "\n")
	}
	holdText(t, numbered(api.MaxPkgs), withSum(lines.String()))
	if s, err := lock.Write(longest()); len(s) != 64*(24+1+40+1)+13 || err != api.OK {
		t.Errorf("Write of what is longest: %d bytes, %v", len(s), err)
	}
}

// TestP801WriteOfSumsWithZeros takes sums that begin with zeros: they have eight
// digits none the less.
func TestP801WriteOfSumsWithZeros(t *testing.T) {
	found := map[int]int{}
	for i := 0; found[3] < 2; i++ {
		l := lock.Lock{{Name: "a", Ver: strconv.Itoa(i)}}
		lines := "a " + l[0].Ver + "\n"
		digits := strconv.FormatUint(uint64(crc32.ChecksumIEEE([]byte(lines))), 16)
		zeros := 8 - len(digits)
		if found[zeros]++; found[zeros] > 20 {
			continue
		}
		holdText(t, l, lines+"sum "+"00000000"[:zeros]+digits+"\n")
		if zeros > 0 {
			holdReadError(t, lines+"sum "+digits+"\n", 1, api.ErrSum)
			holdReadError(t, lines+"sum "+"        "[:zeros]+digits+"\n", 1, api.ErrSum)
		}
	}
}

func TestP801WriteRefuses(t *testing.T) {
	for _, c := range []struct {
		l    lock.Lock
		want api.Errno
	}{
		{entries("A 1"), api.ErrName},
		{entries("a 1", " 1"), api.ErrName},
		{entries("a x"), api.ErrVer},
		{entries("a 01"), api.ErrVer},
		{entries("a 1", "b "), api.ErrVer},
		{entries("a " + longVer), api.ErrLong},
		{entries("a 1", "a 2"), api.ErrTwice},
		{entries("b 1", "a 1"), api.ErrOrder},
		{make(lock.Lock, 1), api.ErrName},
		{numbered(api.MaxPkgs + 1), api.ErrLong},
	} {
		if s, err := lock.Write(c.l); s != "" || err != c.want {
			t.Errorf("Write(%s): %q, %v; want %v", shown(c.l), s, err, c.want)
		}
	}
}

func TestP801ReadRefusesTheEnd(t *testing.T) {
	for _, c := range []struct {
		s    string
		line int
		want api.Errno
	}{
		{"", 0, api.ErrForm},
		{"a 1", 0, api.ErrForm},
		{"sum 00000000", 0, api.ErrForm},
		{"sum 00000000\n ", 0, api.ErrForm},
		{"sum 00000000\r", 0, api.ErrForm},
		{withSum("a 1\n") + "\x00", 0, api.ErrForm},
		{withSum("A 1\n") + "x", 0, api.ErrForm},
		{"\n", 0, api.ErrSum},
		{"\n\n", 1, api.ErrSum},
		{"\n\n\n", 2, api.ErrSum},
		{"a 1\n", 0, api.ErrSum},
		{"a 1\nb 2\n", 1, api.ErrSum},
		{"sum 00000001\n", 0, api.ErrSum},
		{"sum 0000000\n", 0, api.ErrSum},
		{"sum 000000000\n", 0, api.ErrSum},
		{"sum  00000000\n", 0, api.ErrSum},
		{"sum\t00000000\n", 0, api.ErrSum},
		{"sum 00000000 \n", 0, api.ErrSum},
		{" sum 00000000\n", 0, api.ErrSum},
		{"sum 00000000\r\n", 0, api.ErrSum},
		{"Sum 00000000\n", 0, api.ErrSum},
		{"sum 0x000000\n", 0, api.ErrSum},
		{"sum \n", 0, api.ErrSum},
		{"sum\n", 0, api.ErrSum},
		{"00000000\n", 0, api.ErrSum},
		{"sum 00000000\n\n", 1, api.ErrSum},
		{"sum 00000000\nsum 00000000\n", 1, api.ErrSum},
		{"a 1\nsum 00000000\n", 1, api.ErrSum},
		{strings.ToUpper(withSum("a 1\n")), 1, api.ErrSum},
		{"a 1\nsum E8B7BE43\n", 1, api.ErrSum},
		{"a 1\n" + strings.ToUpper(withSum("a 1\n")[4:]), 1, api.ErrSum},
		{"a 1\nsum " + strings.ToUpper(withSum("a 1\n")[8:]), 1, api.ErrSum},
		{withSum("a 1\n") + "\n", 2, api.ErrSum},
		{withSum("a 1\n") + withSum("a 1\n"), 3, api.ErrSum},
		{withSum("a 1\n")[1:], 1, api.ErrSum},
		{"b 1\n" + withSum("a 1\n"), 2, api.ErrSum},
		// the sum is that of the lines with their ends
		{"a 1\n" + withSum("a 1")[3:], 1, api.ErrSum},
		// ahead of what is wrong with the lines before
		{"x\n" + withSum("a 1\n"), 2, api.ErrSum},
		{"A x\nA x\nsum 00000000\n", 2, api.ErrSum},
		{"\n\nsum 00000000\n", 2, api.ErrSum},
		{strings.Repeat("a 1\n", 100) + "sum 00000000\n", 100, api.ErrSum},
	} {
		holdReadError(t, c.s, c.line, c.want)
	}
	// upper case, where there is a letter in the sum
	for i := range 30 {
		s := withSum("a " + strconv.Itoa(i) + "\n")
		at := strings.Index(s, "sum ") + 4
		if upper := s[:at] + strings.ToUpper(s[at:]); upper != s {
			holdReadError(t, upper, 1, api.ErrSum)
		}
	}
}

func TestP801ReadOfLongTexts(t *testing.T) {
	for _, n := range []int{api.MaxText - 1, api.MaxText} {
		holdReadError(t, strings.Repeat("x", n), 0, api.ErrForm)
		holdReadError(t, strings.Repeat("x", n-1)+"\n", 0, api.ErrSum)
		holdReadError(t, strings.Repeat("\n", n), n-1, api.ErrSum)
		holdReadError(t, withSum(strings.Repeat("\n", n-13)), 0, api.ErrForm)
		holdReadError(t, withSum("a 1\n"+strings.Repeat("x", n-18)+"\n"), 1, api.ErrForm)
		holdReadError(t, withSum("b "+strings.Repeat("1", n-16)+"\n"), 0, api.ErrLong)
		holdReadError(t, withSum("a 1\nb "+strings.Repeat("1", n-20)+"\n"), 1, api.ErrLong)
		holdReadError(t, withSum("a 1\n"+strings.Repeat("b", n-20)+" 1\n"), 1, api.ErrName)
	}
	for _, n := range []int{api.MaxText + 1, api.MaxText + 2, 4 * api.MaxText} {
		holdReadError(t, strings.Repeat("x", n), 0, api.ErrLong)
		holdReadError(t, strings.Repeat("\n", n), 0, api.ErrLong)
		holdReadError(t, withSum(strings.Repeat("\n", n-13)), 0, api.ErrLong)
		holdReadError(t, withSum("a 1\n"+strings.Repeat("x", n-18)+"\n"), 0, api.ErrLong)
	}
}

func TestP801ReadRefusesALine(t *testing.T) {
	for _, line := range []string{
		"", " ", "  ", "a", "a ", " 1", "a  1", " a 1", "a 1 ", "a 1 2", "a 1 b 2", "a\t1", "a \t1", "a 1\t", "a 1\r", "a\x001", "a 1\x00",
		"a\x7f 1", "a 1\x7f", "é 1", "a é", "a\xff 1", "a 1\x80", "a\u00a01", "a=1", "sum", "\x1f 1", "a \x1f",
	} {
		holdReadError(t, withSum(line+"\n"), 0, api.ErrForm)
		holdReadError(t, withSum("a 1\n"+line+"\nc 1\n"), 1, api.ErrForm)
		holdReadError(t, withSum("a 1\nb 1\n"+line+"\n"), 2, api.ErrForm)
		// the first of two decides
		holdReadError(t, withSum("a 1\n"+line+"\n\n"), 1, api.ErrForm)
		// the form of all lines comes ahead of the error of Check
		holdReadError(t, withSum("A 1\na x\na 1\na 1\n"+line+"\n"), 4, api.ErrForm)
		holdReadError(t, withSum(strings.Repeat("a 1\n", 65)+line+"\n"), 65, api.ErrForm)
	}
	// a word is of any bytes from 21 to 7E
	for c := range 256 {
		word := string([]byte{byte(c)})
		if c == '\n' {
			continue
		}
		if c < 0x21 || c > 0x7E {
			holdReadError(t, withSum("a"+word+"b 1\n"), 0, api.ErrForm)
			holdReadError(t, withSum("a 1"+word+"1\n"), 0, api.ErrForm)
			continue
		}
		if c < 'a' || c > 'z' {
			holdReadError(t, withSum(word+" 1\n"), 0, api.ErrName)
		}
		if c < '0' || c > '9' {
			holdReadError(t, withSum("a "+word+"\n"), 0, api.ErrVer)
		}
	}
}

func TestP801ReadRefusesWhatCheckDoes(t *testing.T) {
	for _, c := range []struct {
		lines string
		line  int
		want  api.Errno
	}{
		{"A 1\n", 0, api.ErrName},
		{"a 1\nB 1\n", 1, api.ErrName},
		{"a 1\nb 1\n" + longName + " 1\n", 2, api.ErrName},
		{"A x\n", 0, api.ErrName},
		{"a x\n", 0, api.ErrVer},
		{"a 1\nb 1-\n", 1, api.ErrVer},
		{"a 1\nb " + longVer + "\n", 1, api.ErrLong},
		{"a 01\n", 0, api.ErrVer},
		{"a 1\nb 1-0\n", 1, api.ErrVer},
		{"a 1\nb 0:1\n", 1, api.ErrVer},
		{"a 1\na 1\n", 1, api.ErrTwice},
		{"a 1\na 2\n", 1, api.ErrTwice},
		{"a 1\na x\n", 1, api.ErrVer},
		{"b 1\na 1\n", 1, api.ErrOrder},
		{"b 1\nc 1\na 1\n", 2, api.ErrOrder},
		{"b 1\nc 1\nb 1\n", 2, api.ErrOrder},
		{"a 1\na 1\nB 1\n", 1, api.ErrTwice},
		{"sum 00000000\n", 0, api.ErrVer},
		{strings.Repeat("a 1\n", 64), 1, api.ErrTwice},
		// of the whole
		{strings.Repeat("a 1\n", 65), 0, api.ErrLong},
		{"b 1\n" + strings.Repeat("A x\n", 64), 0, api.ErrLong},
		{strings.Repeat("a 1\n", 15000), 0, api.ErrLong},
	} {
		holdReadError(t, withSum(c.lines), c.line, c.want)
	}
}

// readByItsWords does what P801 says of Read, word by word.
func readByItsWords(s string) (lock.Lock, int, api.Errno) {
	if len(s) > 65536 {
		return nil, 0, api.ErrLong
	}
	if s == "" || s[len(s)-1] != 0x0A {
		return nil, 0, api.ErrForm
	}
	lines := strings.SplitAfter(s, "\n")
	lines = lines[:len(lines)-1]
	last := len(lines) - 1
	if before := strings.Join(lines[:last], ""); before+lines[last] != withSum(before) {
		return nil, last, api.ErrSum
	}
	var l lock.Lock
	for i, line := range lines[:last] {
		words := strings.Split(strings.TrimSuffix(line, "\n"), " ")
		if len(words) != 2 || !wordByItsBytes(words[0]) || !wordByItsBytes(words[1]) {
			return nil, i, api.ErrForm
		}
		l = append(l, lock.Entry{Name: words[0], Ver: words[1]})
	}
	if i, err := checkByItsWords(l); err != api.OK {
		return nil, i, err
	}
	return l, 0, api.OK
}

func wordByItsBytes(s string) bool {
	return s != "" && !slices.ContainsFunc([]byte(s), func(c byte) bool { return c < 0x21 || c > 0x7E })
}

// anyText strings together lines that mostly fit.
func anyText(random *rand.Rand) string {
	pick := func(l ...string) string { return l[random.Intn(len(l))] }
	lines := ""
	for _, name := range []string{"a", "a-b", "a0", "b", "c", "sum"} {
		if random.Intn(2) == 0 {
			lines += name + " " + pick("0", "1", "1:2-3", "0~1", longVer[1:]) + "\n"
		}
		if random.Intn(20) == 0 {
			lines += pick("", " ", name, name+" ", name+"  1", "A 1", name+" x", name+" 01", name+" "+longVer, "c 1", name+" 1", longName+" 1", "é 1") + "\n"
		}
	}
	switch s := withSum(lines); random.Intn(40) {
	case 0:
		return s + pick("\n", "x", " ", s)
	case 1:
		return s[:random.Intn(len(s))]
	case 2:
		return s[random.Intn(len(s)):]
	case 3:
		return lines + strings.ToUpper(s[len(lines):])
	default:
		return s
	}
}

func TestP801ReadAgainstItsWords(t *testing.T) {
	random := rand.New(rand.NewSource(8011))
	told := map[api.Errno]int{}
	for range 40000 {
		s := anyText(random)
		want, line, wrong := readByItsWords(s)
		l, i, err := lock.Read(s)
		if !slices.Equal(l, want) || i != line || err != wrong {
			t.Fatalf("Read(%q): %v, %d, %v; want %v, %d, %v", s, l, i, err, want, line, wrong)
		}
		told[err]++
		if err != api.OK {
			continue
		}
		if again, err := lock.Write(l); again != s || err != api.OK {
			t.Fatalf("Write of what Read(%q) returns: %q, %v", s, again, err)
		}
	}
	for _, err := range []api.Errno{api.OK, api.ErrForm, api.ErrSum, api.ErrName, api.ErrVer, api.ErrLong, api.ErrTwice, api.ErrOrder} {
		if told[err] < 100 {
			t.Errorf("%v came up %d times only", err, told[err])
		}
	}
}

// anyLock returns a list that Check accepts.
func anyLock(random *rand.Rand) lock.Lock {
	var l lock.Lock
	for _, e := range longest() {
		if random.Intn(4) > 0 {
			continue
		}
		e.Name = e.Name[:4+random.Intn(21)]
		e.Ver = []string{"0", "1", "1:2-3", "0~1", "10a0.1", "3-1+2", longVer[1 : 2+random.Intn(40)]}[random.Intn(7)]
		l = append(l, e)
	}
	return l
}

func TestP802ReadReturnsWhatWasWritten(t *testing.T) {
	random := rand.New(rand.NewSource(802))
	for range 3000 {
		l := anyLock(random)
		s, err := lock.Write(l)
		if err != api.OK {
			t.Fatalf("Write(%v): %v", l, err)
		}
		holdText(t, l, s)
	}
	for n := range api.MaxPkgs + 1 {
		l := numbered(n)
		s, _ := lock.Write(l)
		holdText(t, l, s)
		s, _ = lock.Write(longest()[:n])
		holdText(t, longest()[:n], s)
	}
}

// TestP802NoByteMayChange puts every other byte at every place of a text.
func TestP802NoByteMayChange(t *testing.T) {
	for _, l := range []lock.Lock{
		nil, entries("a 1"), entries("a 1", "a-b 1:2-3", "b 0"), entries("sum 0", "sumx 1"), numbered(12), longest()[:2],
	} {
		s, err := lock.Write(l)
		if err != api.OK {
			t.Fatalf("Write(%v): %v", l, err)
		}
		for i := range len(s) {
			for c := range 256 {
				if byte(c) == s[i] {
					continue
				}
				changed := s[:i] + string([]byte{byte(c)}) + s[i+1:]
				read, line, wrong := lock.Read(changed)
				_, wantLine, want := readByItsWords(changed)
				if wrong == api.OK || len(read) != 0 || line != wantLine || wrong != want {
					t.Fatalf("Read(%q), with byte %d changed: %v, %d, %v; want %d, %v", changed, i, read, line, wrong, wantLine, want)
				}
			}
		}
	}
}

func TestP1AnyTexts(t *testing.T) {
	pieces := []string{"", "\n", "a 1\n", "b 2", "sum ", "sum 00000000\n", "\x00", "\xff\n", " ", "é 1\n", withSum("a 1\n"), strings.Repeat("a 1\n", 1<<10), strings.Repeat("\n", 1<<16)}
	for _, a := range pieces {
		for _, b := range pieces {
			for _, c := range pieces {
				for _, s := range []string{a + b + c, withSum(a + b + c)} {
					want, line, wrong := readByItsWords(s)
					if l, i, err := lock.Read(s); !slices.Equal(l, want) || i != line || err != wrong {
						t.Fatalf("Read(%.200q): %s, %d, %v; want %d, %v", s, shown(l), i, err, line, wrong)
					}
				}
			}
		}
	}
}
