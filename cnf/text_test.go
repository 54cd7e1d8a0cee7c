package cnf_test

import (
	"math/rand"
	"regexp"
	"slices"
	"strconv"
	"strings"
	"testing"

	"manciple/api"
	"manciple/cnf"
	"manciple/sample"
)

// holdText tells whether clauses are written as that text, and the text read as
// these clauses.
func holdText(t *testing.T, n int, l []cnf.Clause, want string) {
	t.Helper()
	if s := cnf.Text(n, l); s != want {
		t.Errorf("Text(%d, %s): %.400q; want %.400q", n, shown(l), s, want)
	}
	holdParse(t, want, n, l)
}

func holdParse(t *testing.T, s string, n int, want []cnf.Clause) {
	t.Helper()
	if got, l, line, err := cnf.Parse(s); got != n || !cnf.Same(l, want) || line != 0 || err != api.OK {
		t.Errorf("Parse(%.400q): %d, %s, %d, %v; want %d, %s", s, got, shown(l), line, err, n, shown(want))
	}
}

// holdParseError tells whether Parse answers the error and its line and no
// clauses.
func holdParseError(t *testing.T, s string, line int, want api.Errno) {
	t.Helper()
	if n, l, i, err := cnf.Parse(s); n != 0 || len(l) != 0 || i != line || err != want {
		t.Errorf("Parse(%.400q): %d, %s, %d, %v; want %d, %v", s, n, shown(l), i, err, line, want)
	}
}

func TestP1302TextAndBack(t *testing.T) {
	holdText(t, 0, nil, "cnf 0 0\n")
	holdText(t, 5, []cnf.Clause{}, "cnf 5 0\n")
	holdText(t, 0, []cnf.Clause{nil}, "cnf 0 1\n0\n")
	holdText(t, 5, []cnf.Clause{{}, nil, {}}, "cnf 5 3\n0\n0\n0\n")
	holdText(t, 1, []cnf.Clause{{1}}, "cnf 1 1\n1 0\n")
	holdText(t, 1, []cnf.Clause{{-1}}, "cnf 1 1\n-1 0\n")
	// clauses as they stand, whatever their form
	holdText(t, 5, []cnf.Clause{{1, -2}, {}, {5, 5}}, "cnf 5 3\n1 -2 0\n0\n5 5 0\n")
	holdText(t, 12, []cnf.Clause{{3, 1, -12, 10}, {-1, 1}, {3, 1, -12, 10}}, "cnf 12 3\n3 1 -12 10 0\n-1 1 0\n3 1 -12 10 0\n")
	holdText(t, 256, []cnf.Clause{{256, -256, 100, -99}}, "cnf 256 1\n256 -256 100 -99 0\n")
	for n := range api.MaxVars + 1 {
		number := strconv.Itoa(n)
		holdText(t, n, nil, "cnf "+number+" 0\n")
		holdText(t, n, make([]cnf.Clause, n), "cnf "+number+" "+number+"\n"+strings.Repeat("0\n", n))
		if n > 0 {
			holdText(t, n, []cnf.Clause{{n}, {-n, n}}, "cnf "+number+" 2\n"+number+" 0\n-"+number+" "+number+" 0\n")
			holdText(t, 256, []cnf.Clause{slices.Repeat(cnf.Clause{-n}, n)}, "cnf 256 1\n"+strings.Repeat("-"+number+" ", n)+"0\n")
		}
	}
}

// textByItsWords does what P1302 says of Text, word by word.
func textByItsWords(n int, l []cnf.Clause) string {
	var s strings.Builder
	s.WriteString("cnf " + strconv.Itoa(n) + " " + strconv.Itoa(len(l)) + "\n")
	for _, c := range l {
		for _, lit := range c {
			s.WriteString(strconv.Itoa(lit) + " ")
		}
		s.WriteString("0\n")
	}
	return s.String()
}

func TestP1302TextByItsWords(t *testing.T) {
	random := rand.New(rand.NewSource(1302))
	for range 5000 {
		n := 1 + random.Intn(api.MaxVars)
		var l []cnf.Clause
		for range random.Intn(10) {
			l = append(l, sample.Clause(random.Intn, 12, 1, n))
		}
		holdText(t, n, l, textByItsWords(n, l))
	}
}

// TestP1302TextOfAllClauses writes as much as CheckAll accepts, which Parse
// does not read any more.
func TestP1302TextOfAllClauses(t *testing.T) {
	l := slices.Repeat([]cnf.Clause{{-256, 9}, nil}, api.MaxClauses/2)
	l[0] = slices.Repeat(cnf.Clause{-256}, api.MaxClause)
	if _, err := cnf.CheckAll(256, l); err != api.OK {
		t.Fatal(err)
	}
	s := cnf.Text(256, l)
	if want := "cnf 256 131072\n" + strings.Repeat("-256 ", 256) + "0\n0\n" + strings.Repeat("-256 9 0\n0\n", api.MaxClauses/2-1); s != want {
		t.Errorf("Text of all clauses: %d bytes; want %d", len(s), len(want))
	}
	holdParseError(t, s, 0, api.ErrLong)
}

func TestP1302ParseRefusesTheWhole(t *testing.T) {
	for _, s := range []string{"", " ", "x", "0", "cnf 1 0", "cnf 1 1\n1 0", "cnf 1 0\r", "cnf 1 0\n ", "cnf 1 0\n\x00", "cnf 1 1\n1 0\n0"} {
		holdParseError(t, s, 0, api.ErrForm)
	}
	for _, head := range []string{
		"", " ", "0", "1 0", "cnf", "cnf ", "cnf 1", "cnf 1 ", "cnf  1", " cnf 1 0", "cnf 1 0 ", "cnf  1 0", "cnf 1  0", "cnf 1 0 0", "cnf 1 0 1",
		"CNF 1 0", "Cnf 1 0", "cnf1 0", "cn 1 0", "cnff 1 0", "p cnf 1 0", "cnf\t1 0", "cnf 1\t0", "cnf 1 0\r", "cnf 1 0\x00", "\ufeffcnf 1 0", "cnf\u00a01 0",
		"cnf 01 0", "cnf 00 0", "cnf 1 00", "cnf 000001 0", "cnf -1 0", "cnf 1 -0", "cnf 1 -1", "cnf -0 0", "cnf +1 0", "cnf 1 +0", "cnf - 0", "cnf 1 -",
		"cnf 1000000 0", "cnf 1234567 0", "cnf 0000001 0", "cnf 1 0000000", "cnf 99999999999999999999 0", "cnf 18446744073709551617 0", "cnf -9223372036854775808 0",
		"cnf 1.0 0", "cnf 1e0 0", "cnf 0x1 0", "cnf 1_0 0", "cnf a 0", "cnf 1 b", "cnf 1 0x0", "cnf ١ 0", "cnf 1, 0", "cnf \xff 0",
	} {
		holdParseError(t, head+"\n", 0, api.ErrForm)
		// ahead of what is wrong with the lines behind it
		holdParseError(t, head+"\nx\n", 0, api.ErrForm)
	}
	for _, c := range []struct{ count, lines int }{{0, 1}, {1, 0}, {1, 2}, {2, 1}, {3, 30}, {10, 1}, {131072, 3}, {999999, 0}, {999999, 1000}} {
		head := "cnf 1 " + strconv.Itoa(c.count) + "\n"
		holdParseError(t, head+strings.Repeat("0\n", c.lines), 0, api.ErrForm)
		holdParseError(t, head+strings.Repeat("x\n", c.lines), 0, api.ErrForm)
		holdParseError(t, head+strings.Repeat("2 0\n", c.lines), 0, api.ErrForm)
		holdParseError(t, head+strings.Repeat("\n", c.lines), 0, api.ErrForm)
		// and ahead of what CheckAll says of N
		holdParseError(t, "cnf 999999"+head[len("cnf 1"):]+strings.Repeat("0\n", c.lines), 0, api.ErrForm)
	}
	// an empty line is one, and it is no clause's
	holdParseError(t, "cnf 1 0\n\n", 0, api.ErrForm)
	holdParseError(t, "cnf 1 1\n0\n\n", 0, api.ErrForm)
	holdParseError(t, "\ncnf 1 0\n", 0, api.ErrForm)
}

func TestP1302ParseRefusesALine(t *testing.T) {
	for _, line := range []string{
		"", " ", "0 ", " 0", "00", "-0", "+0", "1", "-1", "1 ", "1 2", "1 0 ", " 1 0", "1  0", "1 0 0", "0 0", "0 1 0", "1 0 1 0", "10", "1 00", "1 -0", "1 +0", "1 0x",
		"-0 0", "+1 0", "01 0", "-01 0", "001 0", "00 0", "--1 0", "-+1 0", "- 0", "-1- 0", "1- 0", "1-1 0", "- 1 0",
		"1000000 0", "-1000000 0", "1234567 0", "0000001 0", "-0000001 0", "9223372036854775808 0", "-9223372036854775808 0", "18446744073709551617 0", "99999999999999999999 0",
		"1\t0", "1 0\r", "1 0\t", "1\r0", "1 0\x00", "1\x00 0", "1,0", "1, 0", "1.0 0", "1e0 0", "0x1 0", "1_0 0", "a 0", "x", "1 a 0", "١ 0", "1\u00a00", "\xff 0", "−1 0", "cnf 1 0",
	} {
		holdParseError(t, "cnf 9 1\n"+line+"\n", 1, api.ErrForm)
		holdParseError(t, "cnf 9 2\n"+line+"\n0\n", 1, api.ErrForm)
		holdParseError(t, "cnf 9 3\n1 -2 0\n0\n"+line+"\n", 3, api.ErrForm)
		// the first line that has no form decides
		holdParseError(t, "cnf 9 4\n9 0\n"+line+"\n\nx\n", 2, api.ErrForm)
		// and it is ahead of all that CheckAll says
		holdParseError(t, "cnf 257 3\n10 0\n"+strings.Repeat("1 ", 257)+"0\n"+line+"\n", 3, api.ErrForm)
		holdParseError(t, "cnf 9 2\n"+line+"\n10 0\n", 1, api.ErrForm)
	}
}

func TestP1302ParseRefusesWhatCheckAllDoes(t *testing.T) {
	long := strings.Repeat("1 ", 257) + "0\n"
	for s, want := range map[string]api.Errno{
		"2 0\n": api.ErrLit, "-2 0\n": api.ErrLit, "1 2 0\n": api.ErrLit, "-1 -999999 0\n": api.ErrLit, "999999 0\n": api.ErrLit, "257 0\n": api.ErrLit, "100000 1 0\n": api.ErrLit,
		long: api.ErrLong, "2 " + long: api.ErrLong, strings.Repeat("-2 ", 257) + "0\n": api.ErrLong, strings.Repeat("1 ", 60000) + "0\n": api.ErrLong,
	} {
		holdParseError(t, "cnf 1 1\n"+s, 1, want)
		holdParseError(t, "cnf 1 2\n0\n"+s, 2, want)
		holdParseError(t, "cnf 1 1000\n"+strings.Repeat("1 -1 0\n", 999)+s, 1000, want)
		// the first clause that has an error decides
		holdParseError(t, "cnf 1 4\n1 0\n"+s+long+"7 0\n", 2, want)
		holdParseError(t, "cnf 1 3\n"+s+"7 0\n"+long, 1, want)
		// what is wrong with the whole comes ahead of it
		for _, n := range []string{"257", "258", "1000", "999999"} {
			holdParseError(t, "cnf "+n+" 1\n"+s, 0, api.ErrArg)
			holdParseError(t, "cnf "+n+" 3\n1 0\n0\n"+s, 0, api.ErrArg)
		}
	}
	holdParseError(t, "cnf 0 1\n1 0\n", 1, api.ErrLit)
	holdParseError(t, "cnf 0 2\n0\n-1 0\n", 2, api.ErrLit)
	holdParseError(t, "cnf 257 0\n", 0, api.ErrArg)
	holdParseError(t, "cnf 999999 0\n", 0, api.ErrArg)
	holdParseError(t, "cnf 999999 1\n999999 0\n", 0, api.ErrArg)
	holdParseError(t, "cnf 256 1\n257 0\n", 1, api.ErrLit)
	holdParse(t, "cnf 256 1\n-256 0\n", 256, []cnf.Clause{{-256}})
	holdParse(t, "cnf 1 1\n"+long[2:], 1, []cnf.Clause{slices.Repeat(cnf.Clause{1}, 256)})
}

func TestP1302ParseOfLongTexts(t *testing.T) {
	longest := 4 * api.MaxText
	// as many clauses as a text has room for are less than MaxClauses
	for _, head := range []string{"cnf 0 131065\n", "cnf 10 131065\n"} {
		s := head + strings.Repeat("0\n", 131065)
		if len(s) > longest || len(s) < longest-1 {
			t.Fatalf("the longest text has %d bytes", len(s))
		}
		holdParse(t, s, len(head)/14*10, make([]cnf.Clause, 131065))
	}
	holdParseError(t, "cnf 100 131065\n"+strings.Repeat("0\n", 131065), 0, api.ErrLong)
	holdParseError(t, "cnf 0 131066\n"+strings.Repeat("0\n", 131066), 0, api.ErrLong)
	holdParseError(t, "cnf 0 131073\n"+strings.Repeat("0\n", 131073), 0, api.ErrLong)
	for _, n := range []int{longest - 1, longest} {
		holdParseError(t, strings.Repeat("x", n), 0, api.ErrForm)
		holdParseError(t, strings.Repeat("\n", n), 0, api.ErrForm)
		holdParseError(t, strings.Repeat("x", n-1)+"\n", 0, api.ErrForm)
		holdParseError(t, "cnf "+strings.Repeat("1", n-7)+" 0\n", 0, api.ErrForm)
		holdParseError(t, "cnf 1 1\n"+strings.Repeat("1", n-11)+" 0\n", 1, api.ErrForm)
		holdParseError(t, "cnf 1 1\n"+strings.Repeat(" ", n-9)+"\n", 1, api.ErrForm)
		holdParseError(t, ("cnf 1 1\n" + strings.Repeat("1 ", n/2))[:n-3]+"\n", 1, api.ErrForm)
	}
	holdParseError(t, "cnf 1 1\n"+strings.Repeat("1 ", longest/2-5)+"0\n", 1, api.ErrLong)
	for _, n := range []int{longest + 1, longest + 2, 2 * longest} {
		holdParseError(t, strings.Repeat("x", n), 0, api.ErrLong)
		holdParseError(t, strings.Repeat("\n", n), 0, api.ErrLong)
		holdParseError(t, "cnf 1 1\n"+strings.Repeat("1 ", n/2)+"0\n", 0, api.ErrLong)
		holdParseError(t, "cnf 1 0\n"+strings.Repeat("x", n-8), 0, api.ErrLong)
	}
}

var (
	headForm = regexp.MustCompile(`^cnf (0|[1-9][0-9]{0,5}) (0|[1-9][0-9]{0,5})$`)
	lineForm = regexp.MustCompile(`^(-?[1-9][0-9]{0,5} )*0$`)
)

// parseByItsWords does what P1302 says of Parse, word by word.
func parseByItsWords(s string) (int, []cnf.Clause, int, api.Errno) {
	if len(s) > 262144 {
		return 0, nil, 0, api.ErrLong
	}
	if s == "" || s[len(s)-1] != 0x0A {
		return 0, nil, 0, api.ErrForm
	}
	lines := strings.Split(s[:len(s)-1], "\n")
	head := headForm.FindStringSubmatch(lines[0])
	if head == nil || head[2] != strconv.Itoa(len(lines)-1) {
		return 0, nil, 0, api.ErrForm
	}
	var l []cnf.Clause
	for i, line := range lines[1:] {
		if !lineForm.MatchString(line) {
			return 0, nil, i + 1, api.ErrForm
		}
		var c cnf.Clause
		for _, word := range strings.Fields(strings.TrimSuffix(line, "0")) {
			lit, _ := strconv.Atoi(word)
			c = append(c, lit)
		}
		l = append(l, c)
	}
	n, _ := strconv.Atoi(head[1])
	if i, err := checkAllByItsWords(n, l); err == api.ErrArg {
		return 0, nil, 0, err
	} else if err != api.OK { // of a clause: a text has no room for too many
		return 0, nil, i + 1, err
	}
	return n, l, 0, api.OK
}

func holdParseByItsWords(t *testing.T, s string) api.Errno {
	t.Helper()
	n, l, line, err := parseByItsWords(s)
	if err == api.OK {
		holdText(t, n, l, s) // what is read is written again as it was (T5)
	} else {
		holdParseError(t, s, line, err)
	}
	return err
}

// texts returns all texts of at most most of these bytes.
func texts(of string, most int) []string {
	l := []string{""}
	last := l
	for range most {
		var longer []string
		for _, s := range last {
			for i := range len(of) {
				longer = append(longer, s+of[i:i+1])
			}
		}
		l = append(l, longer...)
		last = longer
	}
	return l
}

func TestP1302ParseOfEveryShortText(t *testing.T) {
	read := 0
	for _, s := range texts("012- \n", 6) {
		for _, whole := range []string{"cnf 9 1\n" + s + "\n", "cnf " + s + "\n", "cnf 1 " + s} {
			if holdParseByItsWords(t, whole) == api.OK {
				read++
			}
		}
	}
	if read < 50 {
		t.Errorf("only %d texts were read", read)
	}
}

func TestP1302ParseOfEveryByte(t *testing.T) {
	for _, s := range []string{"cnf 10 0\n", "cnf 2 3\n0\n-1 2 0\n1 0\n"} {
		for i := range len(s) + 1 {
			for c := range 256 {
				holdParseByItsWords(t, s[:i]+string([]byte{byte(c)})+s[i:])
				if i < len(s) {
					holdParseByItsWords(t, s[:i]+string([]byte{byte(c)})+s[i+1:])
				}
			}
			holdParseByItsWords(t, s[:i])
			holdParseByItsWords(t, s[i:])
		}
	}
}

// anyText strings together lines that mostly fit.
func anyText(random *rand.Rand) string {
	pick := func(often []string, seldom ...string) string {
		if random.Intn(60) > 0 {
			return often[random.Intn(len(often))]
		}
		return seldom[random.Intn(len(seldom))]
	}
	n := random.Intn(7)
	count := strconv.Itoa(n)
	s := pick([]string{"cnf "}, "CNF ", "cnf  ", "", " cnf ") + pick([]string{"9", "10", "256", "300"}, "0", "8", "257", "999999", "1000000", "09", "-9", "") + " "
	s += pick([]string{count}, "0"+count, count+"1", "1", "", " "+count, "-"+count) + pick([]string{"\n"}, "", "\n\n", " \n", "\r\n")
	for range n {
		for range random.Intn(5) {
			s += pick([]string{""}, " ", "0 ", "-", "+")
			s += pick([]string{"1", "-2", "9", "-9", "3"}, "10", "-10", "-256", "257", "-999999", "1000000", "01", "-0", "", "x")
			s += pick([]string{" "}, "", "  ", "\t", " 0 ", strings.Repeat(" -1", 255)+" ", strings.Repeat(" 1", 256)+" ")
		}
		s += pick([]string{"0\n"}, "0", "\n", "00\n", "0 \n", "0\n\n", "0\r\n", "-0\n", "0\n0\n")
	}
	return s
}

func TestP1302ParseByItsWords(t *testing.T) {
	random := rand.New(rand.NewSource(13022))
	told := map[api.Errno]int{}
	for range 30000 {
		told[holdParseByItsWords(t, anyText(random))]++
	}
	for _, err := range []api.Errno{api.OK, api.ErrForm, api.ErrArg, api.ErrLong, api.ErrLit} {
		if told[err] < 100 {
			t.Errorf("%v came up %d times only", err, told[err])
		}
	}
}
