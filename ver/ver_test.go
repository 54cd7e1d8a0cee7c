package ver_test

import (
	"regexp"
	"slices"
	"strings"
	"testing"
	"unsafe"

	"manciple/api"
	"manciple/ver"
)

const longest = "0123456789012345678901234567890123456789"

// form is P101's form; it knows nothing of the limit on a version's bytes.
var form = regexp.MustCompile(`^([0-9]{1,6}:)?[0-9]+([a-zA-Z.+~]+[0-9]+)*(-[0-9]+([a-zA-Z.+~]+[0-9]+)*)?$`)

// words returns every string of at most n of the bytes of alphabet.
func words(alphabet string, n int) []string {
	all := []string{""}
	last := all
	for range n {
		var next []string
		for _, w := range last {
			for i := range len(alphabet) {
				next = append(next, w+alphabet[i:i+1])
			}
		}
		all = append(all, next...)
		last = next
	}
	return all
}

func versions(alphabet string, n int) []string {
	return slices.DeleteFunc(words(alphabet, n), func(w string) bool { return !form.MatchString(w) })
}

func TestP101CheckAccepts(t *testing.T) {
	for _, s := range []string{
		"0", "7", "00", "1.2.3", "1:2-3", "0:0-0", "000000:1", "999999:1", "1a2", "1~2", "1+2",
		"1..2", "1.+~aZ2", "1A0z9", "1-2a3", "1:2a3-4~5", "01.002-0003",
	} {
		if err := ver.Check(s); err != api.OK {
			t.Errorf("Check(%q): %v", s, err)
		}
	}
}

func TestP101CheckRefuses(t *testing.T) {
	for _, s := range []string{
		"", ":", "-", ":-", "a", ".", "~", "a1", "1a", "~1", "1~", ".1", "1.",
		":1", "1:", "1::2", "1:2:3", "a:1", "1a2:3", "1.0:2", "1234567:1", "0000001:1", "1:a2", "1:2a",
		"-1", "1-", "1--2", "1-2-3", "1-a2", "1-2a", "1-2:3", "1:-2", "1:2-",
		" 1", "1 ", "1 2", "1\n", "1_2", "1,2", "1/2", "1\x002", "1\xff2", "1é2", "١", "+1",
	} {
		if err := ver.Check(s); err != api.ErrVer {
			t.Errorf("Check(%q): %v; want %v", s, err, api.ErrVer)
		}
	}
}

func TestP101CheckLengthComesFirst(t *testing.T) {
	if len(longest) != api.MaxVer {
		t.Fatalf("the test's longest version has %d bytes", len(longest))
	}
	for s, want := range map[string]api.Errno{
		longest:                       api.OK,
		longest + "1":                 api.ErrLong,
		longest[:39] + "x":            api.ErrVer,
		longest + "x":                 api.ErrLong,
		strings.Repeat("é", 20):       api.ErrVer,
		strings.Repeat("é", 20) + "1": api.ErrLong,
		"123456:" + longest[:33]:      api.OK,
		"123456:" + longest[:34]:      api.ErrLong,
		strings.Repeat("-", 1<<20):    api.ErrLong,
	} {
		if err := ver.Check(s); err != want {
			t.Errorf("Check of %d bytes (%.50q): %v; want %v", len(s), s, err, want)
		}
	}
}

// holdAgainstForm stops at the first of all that Check and form see differently.
func holdAgainstForm(t *testing.T, all []string) {
	t.Helper()
	for _, s := range all {
		want := api.ErrVer
		if form.MatchString(s) {
			want = api.OK
		}
		if err := ver.Check(s); err != want {
			t.Fatalf("Check(%q): %v; want %v", s, err, want)
		}
	}
}

func TestP101CheckEveryByte(t *testing.T) {
	var all []string
	for c := range 256 {
		all = append(all, "1"+string([]byte{byte(c)})+"2")
	}
	holdAgainstForm(t, all)
}

func TestP101CheckAgainstForm(t *testing.T) {
	holdAgainstForm(t, words("09aZ.~:-_", 6))
}

func TestP101Canon(t *testing.T) {
	for s, want := range map[string]string{
		"0":              "0",
		"000":            "0",
		"01":             "1",
		"100":            "100",
		"10.00a010":      "10.0a10",
		"1.02.003":       "1.2.3",
		"1..02+~a03":     "1..2+~a3",
		"0:0-0":          "0",
		"0:1":            "1",
		"000000:1":       "1",
		"007:1":          "7:1",
		"100000:1":       "100000:1",
		"1-0":            "1",
		"1-000":          "1",
		"1-01":           "1-1",
		"1-00.0":         "1-0.0",
		"1-0~00":         "1-0~0",
		"02:03a04-05b06": "2:3a4-5b6",
		longest:          longest[1:],
	} {
		if canon, err := ver.Canon(s); canon != want || err != api.OK {
			t.Errorf("Canon(%q): %q, %v; want %q", s, canon, err, want)
		}
	}
}

func TestP101CanonErrors(t *testing.T) {
	for s, want := range map[string]api.Errno{
		"":                      api.ErrVer,
		"1a":                    api.ErrVer,
		"01-":                   api.ErrVer,
		"1234567:1":             api.ErrVer,
		"1:2-3x":                api.ErrVer,
		longest + "0":           api.ErrLong,
		strings.Repeat("0", 41): api.ErrLong,
	} {
		if canon, err := ver.Canon(s); canon != "" || err != want {
			t.Errorf("Canon(%q): %q, %v; want none and %v", s, canon, err, want)
		}
	}
}

func TestP101CanonIsSettled(t *testing.T) {
	for _, s := range versions("01a~:-", 6) {
		canon, err := ver.Canon(s)
		if err != api.OK || ver.Check(canon) != api.OK {
			t.Fatalf("Canon(%q): %q, %v", s, canon, err)
		}
		if again, _ := ver.Canon(canon); again != canon {
			t.Fatalf("Canon(%q): %q, and of that %q", s, canon, again)
		}
		if ver.Epoch(canon) != ver.Epoch(s) {
			t.Fatalf("Canon(%q): %q has another epoch", s, canon)
		}
	}
}

func TestP2CanonIsNewMemory(t *testing.T) {
	for _, s := range []string{"12", "1.2.3", "3:1.2-4", "0:12", "12-0"} {
		canon, _ := ver.Canon(s)
		from := uintptr(unsafe.Pointer(unsafe.StringData(s)))
		at := uintptr(unsafe.Pointer(unsafe.StringData(canon)))
		if from <= at && at < from+uintptr(len(s)) {
			t.Errorf("Canon(%q) answers memory of its argument", s)
		}
	}
}

func TestP101Epoch(t *testing.T) {
	for s, want := range map[string]int{
		"1":          0,
		"5-6":        0,
		"0:1":        0,
		"000000:9":   0,
		"7:1":        7,
		"007:1":      7,
		"010:1":      10,
		"999999:1-2": 999999,
	} {
		if number := ver.Epoch(s); number != want {
			t.Errorf("Epoch(%q): %d; want %d", s, number, want)
		}
	}
}

// ascends fails unless every row is less than all rows after it.
func ascends(t *testing.T, rows []string) {
	t.Helper()
	for i, a := range rows {
		for k, b := range rows {
			want := 0
			if i < k {
				want = -1
			} else if i > k {
				want = 1
			}
			if got := ver.Compare(a, b); got != want {
				t.Errorf("Compare(%q, %q): %d; want %d", a, b, got, want)
			}
		}
	}
}

func TestP102Ascending(t *testing.T) {
	for _, rows := range [][]string{
		{"0~1", "0", "0-1", "0a0", "0+0", "0.0"},
		{"1", "2", "9", "10", "99", "100", longest, strings.Repeat("9", 40)},
		{"9", "1:1", "2:0", "10:0", "100000:0", "999999:0"},
		{"1:9-9", "2:1-1", "2:1-9", "2:2-1", "2:2-1.1", "2:2-2"},
		{"1-0~1", "1", "1-0a1", "1-1~1", "1-1", "1-1a1", "1-1.1", "1-2", "1-10"},
		{"1~~1", "1~~2", "1~1", "1~a1", "1", "1a~1", "1a1", "1aa1", "1a.1", "1b1", "1.~1", "1.1", "1.a1", "1..1"},
		{"1.2", "1.2.0", "1.2.1", "1.3", "1.10", "1.10.1", "2.0"},
		{"1a1-9", "1a1b1-1", "1a2-1"},
	} {
		ascends(t, rows)
	}
}

func TestP102EveryOtherCharacter(t *testing.T) {
	var rows []string
	for _, c := range "~ ABCDEFGHIJKLMNOPQRSTUVWXYZabcdefghijklmnopqrstuvwxyz+." {
		if c == ' ' { // the end of the run
			rows = append(rows, "3m4")
		} else {
			rows = append(rows, "3m"+string(c)+"4")
		}
	}
	ascends(t, rows)
}

func TestP102Equal(t *testing.T) {
	for _, pair := range [][2]string{
		{"1", "01"}, {"0", "000"}, {"1", "0:1"}, {"1", "1-0"}, {"1", "000:01-00"}, {"7:1", "007:1"},
		{"1.2", "01.002"}, {"1a0", "1a000"}, {"1-2~3", "1-02~03"}, {"5", strings.Repeat("0", 39) + "5"},
	} {
		if got := ver.Compare(pair[0], pair[1]); got != 0 {
			t.Errorf("Compare(%q, %q): %d; want 0", pair[0], pair[1], got)
		}
	}
}

func TestP102EqualExactlyIfCanonIs(t *testing.T) {
	all := versions("01a~:-", 5)
	canons := make([]string, len(all))
	for i, s := range all {
		canons[i], _ = ver.Canon(s)
	}
	for i, a := range all {
		for k, b := range all {
			order := ver.Compare(a, b)
			if (order == 0) != (canons[i] == canons[k]) {
				t.Fatalf("Compare(%q, %q): %d; their canons are %q and %q", a, b, order, canons[i], canons[k])
			}
			if back := ver.Compare(b, a); back != -order {
				t.Fatalf("Compare(%q, %q): %d, the other way %d", a, b, order, back)
			}
		}
	}
}

// TestP102OneOrder sorts and then holds every pair against its places: only a
// transitive order passes.
func TestP102OneOrder(t *testing.T) {
	all := append(versions("01a~-", 5), versions("1Z.+", 5)...)
	slices.SortFunc(all, ver.Compare)
	for i, a := range all {
		for _, b := range all[i:] {
			if ver.Compare(a, b) > 0 {
				t.Fatalf("%q stands ahead of %q", a, b)
			}
		}
	}
}

func TestP1WrongArguments(t *testing.T) {
	wrong := []string{
		"", ":", "-", ":-", "~", "a", "1a", "1-", ":1", "1234567:1", "99999999999999999999:1", "\xff", "\x00",
		"1é2", longest + "1", strings.Repeat("1a", 1<<19), strings.Repeat("9", 1<<20) + ":1",
	}
	for _, a := range wrong {
		ver.Epoch(a)
		for _, b := range append(wrong, "1", "1:2-3") {
			ver.Compare(a, b)
			ver.Compare(b, a)
		}
	}
}
