package weight_test

import (
	"math"
	"math/big"
	"math/bits"
	"math/rand"
	"regexp"
	"slices"
	"strings"
	"testing"

	"manciple/api"
	"manciple/weight"
)

const signBit = 1 << 63

// nans returns NaNs of several payloads, quiet and signalling ones.
func nans(sign uint64) []float64 {
	var l []float64
	for _, payload := range []uint64{1, 2, 1<<51 - 1, 1 << 51, 1<<51 | 1, 1<<52 - 1} {
		l = append(l, math.Float64frombits(sign|0x7ff<<52|payload))
	}
	return l
}

// magnitudes returns positive numbers in ascending order: the ends of the
// range, subnormal numbers among them, and the neighbours of powers of two.
func magnitudes() []float64 {
	l := []float64{math.MaxFloat64, 0.1, 1.0 / 3, 10, 1e16, 1e300, 1e-300}
	for power := -1074; power <= 1023; power += 13 {
		l = append(l, math.Ldexp(1, power))
	}
	for _, power := range []int{-1073, -1023, -1022, -1021, -1, 0, 1, 52, 53, 54, 63, 64, 1023} {
		f := math.Ldexp(1, power)
		l = append(l, f, math.Nextafter(f, 0), math.Nextafter(f, math.MaxFloat64))
	}
	slices.Sort(l)
	return slices.Compact(l)
}

// ladder returns all kinds of numbers in P201's order, equal ones in one row.
func ladder() [][]float64 {
	up := [][]float64{{0}}
	for _, f := range magnitudes() {
		up = append(up, []float64{f})
	}
	up = append(up, []float64{math.Inf(1)})
	rows := [][]float64{nans(signBit)}
	for _, row := range slices.Backward(up) {
		rows = append(rows, []float64{math.Copysign(row[0], -1)})
	}
	return append(append(rows, up...), nans(0))
}

// numbers returns what the ladder has, and numbers of arbitrary bits.
func numbers() []float64 {
	var l []float64
	for _, row := range ladder() {
		l = append(l, row...)
	}
	source := rand.New(rand.NewSource(201))
	for range 20000 {
		l = append(l, math.Float64frombits(source.Uint64()))
	}
	return l
}

func sameBits(a, b float64) bool { return math.Float64bits(a) == math.Float64bits(b) }

func TestP201Check(t *testing.T) {
	for _, f := range numbers() {
		want := api.OK
		if math.IsNaN(f) {
			want = api.ErrWeight
		}
		if err := weight.Check(f); err != want {
			t.Errorf("Check(%v): %v; want %v", f, err, want)
		}
	}
}

func TestP201CompareAndSame(t *testing.T) {
	rows := ladder()
	for i, row := range rows {
		for k, other := range rows {
			holdPair(t, row, other, min(1, max(-1, i-k)))
		}
	}
}

// holdPair holds each number of one row against each of another.
func holdPair(t *testing.T, row, other []float64, want int) {
	t.Helper()
	for _, a := range row {
		for _, b := range other {
			x, y := math.Float64bits(a), math.Float64bits(b)
			if got := weight.Compare(a, b); got != want {
				t.Fatalf("Compare(%x, %x): %d; want %d", x, y, got, want)
			}
			if got := weight.Same(a, b); got != (want == 0) {
				t.Fatalf("Same(%x, %x): %v", x, y, got)
			}
		}
	}
}

func TestP201CompareHoldsToTheOrderOfNumbers(t *testing.T) {
	l := numbers()
	for i, a := range l {
		b := l[(i+1)%len(l)]
		got := weight.Compare(a, b)
		if a < b && got != -1 || a > b && got != 1 || weight.Compare(b, a) != -got {
			t.Errorf("Compare(%v, %v): %d, and the other way round %d", a, b, got, weight.Compare(b, a))
		}
	}
}

// texts are texts of all forms with their numbers.
func texts() map[string]float64 {
	return map[string]float64{
		"inf":                    math.Inf(1),
		"-inf":                   math.Inf(-1),
		"0":                      0,
		"-0":                     math.Copysign(0, -1),
		"1p0":                    1,
		"-1p0":                   -1,
		"1p1":                    2,
		"3p-1":                   1.5,
		"-3p-1":                  -1.5,
		"5p1":                    10,
		"5p0":                    5,
		"125p3":                  1000,
		"3602879701896397p-55":   0.1,
		"1p-1074":                math.SmallestNonzeroFloat64,
		"-1p-1074":               -math.SmallestNonzeroFloat64,
		"3p-1074":                3 * math.SmallestNonzeroFloat64,
		"1p-1073":                2 * math.SmallestNonzeroFloat64,
		"4503599627370495p-1074": math.Nextafter(0x1p-1022, 0),
		"1p-1022":                0x1p-1022,
		"9007199254740991p-1074": math.Nextafter(0x1p-1021, 0),
		"9007199254740991p0":     1<<53 - 1,
		"-9007199254740991p0":    -(1<<53 - 1),
		"1p53":                   1 << 53,
		"1p1023":                 0x1p1023,
		"3p1022":                 0x3p1022,
		"9007199254740991p971":   math.MaxFloat64,
		"-9007199254740991p971":  -math.MaxFloat64,
	}
}

func TestP201Text(t *testing.T) {
	for want, f := range texts() {
		if got := weight.Text(f); got != want {
			t.Errorf("Text(%v): %q; want %q", f, got, want)
		}
	}
	for _, f := range append(nans(0), nans(signBit)...) {
		if got := weight.Text(f); got != "nan" {
			t.Errorf("Text(%x): %q; want nan", math.Float64bits(f), got)
		}
	}
}

func TestP201Parse(t *testing.T) {
	for s, want := range texts() {
		if f, err := weight.Parse(s); !sameBits(f, want) || err != api.OK {
			t.Errorf("Parse(%q): %v, %v; want %v", s, f, err, want)
		}
	}
	if f, err := weight.Parse("nan"); !math.IsNaN(f) || math.Signbit(f) || err != api.OK {
		t.Errorf("Parse(nan): %x, %v", math.Float64bits(f), err)
	}
}

func TestP201ParseReadsWhatTextWrites(t *testing.T) {
	for _, f := range numbers() {
		s := weight.Text(f)
		back, err := weight.Parse(s)
		if err != api.OK || !sameBits(back, f) && !(math.IsNaN(back) && math.IsNaN(f)) {
			t.Errorf("Text(%x): %q, read as %x, %v", math.Float64bits(f), s, math.Float64bits(back), err)
		}
	}
}

// product is the form MpE of P201.
var product = regexp.MustCompile(`^(-?(?:[1-9][0-9]*)?[13579])p(0|-?[1-9][0-9]*)$`)

func TestP201TextIsExact(t *testing.T) {
	for _, f := range numbers() {
		if math.IsNaN(f) || math.IsInf(f, 0) || f == 0 {
			continue
		}
		s := weight.Text(f)
		if want, err := expect(s); err != api.OK || want.Cmp(new(big.Float).SetFloat64(f)) != 0 {
			t.Errorf("Text(%v): %q", f, s)
		}
	}
}

// expect reads MpE by P201's words, with integers that have no limit.
func expect(s string) (*big.Float, api.Errno) {
	pieces := product.FindStringSubmatch(s)
	if pieces == nil {
		return nil, api.ErrForm
	}
	m, _ := new(big.Int).SetString(pieces[1], 10)
	e, _ := new(big.Int).SetString(pieces[2], 10)
	top := new(big.Int).Add(e, big.NewInt(int64(m.BitLen())))
	if m.BitLen() > 53 || e.Cmp(big.NewInt(-1074)) < 0 || top.Cmp(big.NewInt(1024)) > 0 {
		return nil, api.ErrWeight
	}
	f := new(big.Float).SetInt(m)
	return f.SetMantExp(f, int(e.Int64())), api.OK
}

// holdParse holds Parse of a text that is a product, or of no form, to expect.
func holdParse(t *testing.T, s string) {
	t.Helper()
	exact, want := expect(s)
	f, err := weight.Parse(s)
	if err != want {
		t.Errorf("Parse(%.60q): %v; want %v", s, err, want)
	} else if err != api.OK && !sameBits(f, 0) {
		t.Errorf("Parse(%.60q): %v beside an error", s, f)
	} else if err == api.OK && exact.Cmp(new(big.Float).SetFloat64(f)) != 0 {
		t.Errorf("Parse(%q): %v; want %v", s, f, exact)
	}
}

func TestP201ParseForms(t *testing.T) {
	for _, s := range []string{
		"", " ", "-", "--", "p", "-p", "p-", "-p-", "1", "-1", "15", "1p", "p1", "-p1", "1p-", "1p--1",
		"0p0", "0p1", "-0p0", "2p0", "-4p1", "10p0", "01p0", "-01p0", "001p0", "1p00", "1p01", "1p-0", "1p-01",
		"--1p0", "-1-p0", "1p1-", "+1p1", "1p+1", "1p1p1", "1pp1", "1.5p0", "1p1.5", "1e5", "1P0", "0x1p0", "1_1p0",
		" 1p0", "1p0 ", "1 p0", "1p 0", "1p0\n", "1p0\x00", "١p0", "1p١", "é", "\xff",
		"Inf", "INF", "+inf", "--inf", "inf0", "infinity", "in", "i", "NaN", "-nan", "+nan", "nan0", "nanp0", "infp0",
		"00", "-00", "+0", "--0", "0.0", "-0.0", "0 ", " 0",
	} {
		if f, err := weight.Parse(s); !sameBits(f, 0) || err != api.ErrForm {
			t.Errorf("Parse(%q): %v, %v; want %v", s, f, err, api.ErrForm)
		}
	}
}

func TestP201ParseEveryShortText(t *testing.T) {
	last := []string{""}
	for range 6 {
		var next []string
		for _, w := range last {
			for _, c := range "0127p-" {
				next = append(next, w+string(c))
			}
		}
		last = next
		for _, s := range last {
			if s != "0" && s != "-0" {
				holdParse(t, s)
			}
		}
	}
}

func TestP201ParseLimits(t *testing.T) {
	for s, want := range map[string]api.Errno{
		"9007199254740991p0":    api.OK,
		"9007199254740993p0":    api.ErrWeight,
		"-9007199254740993p0":   api.ErrWeight,
		"18014398509481983p-1":  api.ErrWeight,
		"9223372036854775807p0": api.ErrWeight,
		"9223372036854775809p0": api.ErrWeight,
		"-9223372036854775807p": api.ErrForm,
		"1p-1074":               api.OK,
		"1p-1075":               api.ErrWeight,
		"-1p-1075":              api.ErrWeight,
		"3p-1075":               api.ErrWeight,
		"1p1023":                api.OK,
		"1p1024":                api.ErrWeight,
		"-1p1024":               api.ErrWeight,
		"3p1022":                api.OK,
		"3p1023":                api.ErrWeight,
		"9007199254740991p971":  api.OK,
		"9007199254740991p972":  api.ErrWeight,
		"-9007199254740991p972": api.ErrWeight,
		"4503599627370497p971":  api.OK,
		"4503599627370497p972":  api.ErrWeight,
	} {
		if _, err := weight.Parse(s); err != want {
			t.Errorf("Parse(%q): %v; want %v", s, err, want)
		}
		holdParse(t, s)
	}
}

func TestP201ParseLongNumbers(t *testing.T) {
	for _, n := range []int{15, 16, 17, 18, 19, 20, 21, 40, 1000, 100000} {
		for _, sign := range []string{"", "-"} {
			long := strings.Repeat("9", n)
			for _, s := range []string{sign + long + "p0", "1p" + sign + long, sign + long + "p-" + long, "3p" + sign + "1" + long} {
				holdParse(t, s)
				holdParse(t, s+"x")
			}
		}
	}
	for _, s := range []string{
		"9223372036854775807p0", "-9223372036854775807p0", "-9223372036854775809p0", "18446744073709551617p0",
		"1p9223372036854775807", "1p-9223372036854775808", "1p18446744073709551616", "9007199254740991p9223372036854775807",
	} {
		holdParse(t, s)
	}
}

func TestP201ParseFormComesFirst(t *testing.T) {
	for _, s := range []string{
		"9007199254740992p0", "9007199254740993p00", "09007199254740993p0", "99999999999999999999998p0",
		"1p-01075", "1p-1075x", "2p1024", "2p-1075", "1p99999999999999999999x",
	} {
		if f, err := weight.Parse(s); !sameBits(f, 0) || err != api.ErrForm {
			t.Errorf("Parse(%q): %v, %v; want %v", s, f, err, api.ErrForm)
		}
	}
}

// TestP201ParseAroundTheLimits goes through widths and powers at the limits.
func TestP201ParseAroundTheLimits(t *testing.T) {
	for width := 1; width <= 55; width++ {
		m := big.NewInt(1<<(width-1) | 1)
		if bits.Len64(m.Uint64()) != width {
			t.Fatalf("the test's factor %v has not %d bits", m, width)
		}
		for _, power := range []int{-1076, -1075, -1074, 1023 - width, 1024 - width, 1025 - width} {
			s := m.String() + "p" + big.NewInt(int64(power)).String()
			holdParse(t, s)
			holdParse(t, "-"+s)
		}
	}
}

func TestP201Sum(t *testing.T) {
	inf := math.Inf(1)
	for _, c := range []struct {
		l    []float64
		want float64
	}{
		{nil, 0},
		{[]float64{}, 0},
		{[]float64{7}, 7},
		{[]float64{1, 2, 3.5, -0.25}, 6.25},
		{[]float64{math.Copysign(0, -1)}, 0},
		{[]float64{math.Copysign(0, -1), math.Copysign(0, -1)}, 0},
		{[]float64{-1, 1}, 0},
		{[]float64{1 << 53, 1, 1}, 1 << 53},
		{[]float64{1, 1, 1 << 53}, 1<<53 + 2},
		{[]float64{1e16, 1, -1e16}, 0},
		{[]float64{1e16, -1e16, 1}, 1},
		{[]float64{0.1, 0.2, 0.3}, 0.6000000000000001},
		{[]float64{0.3, 0.2, 0.1}, 0.6},
		{[]float64{math.SmallestNonzeroFloat64, math.SmallestNonzeroFloat64}, 2 * math.SmallestNonzeroFloat64},
		{[]float64{inf, 5}, inf},
		{[]float64{5, -inf}, -inf},
		{[]float64{math.MaxFloat64, math.MaxFloat64}, inf},
		{[]float64{math.MaxFloat64, math.MaxFloat64, -math.MaxFloat64}, inf},
		{[]float64{math.MaxFloat64, -math.MaxFloat64, math.MaxFloat64}, math.MaxFloat64},
	} {
		if got := weight.Sum(c.l); !sameBits(got, c.want) {
			t.Errorf("Sum(%v): %v; want %v", c.l, got, c.want)
		}
	}
}

func TestP201SumWithoutNumber(t *testing.T) {
	inf := math.Inf(1)
	for _, l := range [][]float64{{math.NaN()}, {1, math.NaN(), 2}, {inf, -inf}, {-inf, 1, inf}, {math.MaxFloat64, math.MaxFloat64, -inf}} {
		if got := weight.Sum(l); !math.IsNaN(got) {
			t.Errorf("Sum(%v): %v; want a NaN", l, got)
		}
	}
}

func TestP201Greatest(t *testing.T) {
	low, high := nans(signBit), nans(0)
	zero, minus := 0.0, math.Copysign(0, -1)
	for _, c := range []struct {
		l    []float64
		want int
		ok   bool
	}{
		{nil, 0, false},
		{[]float64{}, 0, false},
		{[]float64{-5}, 0, true},
		{[]float64{math.Inf(-1)}, 0, true},
		{low[:1], 0, true},
		{[]float64{1, 2, 3}, 2, true},
		{[]float64{3, 2, 1}, 0, true},
		{[]float64{2, 5, 5, 1}, 1, true},
		{[]float64{-3, -1, -2, -1}, 1, true},
		{[]float64{minus, zero, minus, zero}, 1, true},
		{[]float64{zero, minus}, 0, true},
		{[]float64{minus, minus}, 0, true},
		{[]float64{3, math.Inf(1), high[0], high[1]}, 2, true},
		{[]float64{high[3], math.Inf(1), high[0]}, 0, true},
		{[]float64{low[0], math.Inf(-1)}, 1, true},
		{[]float64{low[2], low[5], low[0]}, 0, true},
		{[]float64{low[0], 1, high[0], 2, low[1]}, 2, true},
	} {
		if i, ok := weight.Greatest(c.l); i != c.want || ok != c.ok {
			t.Errorf("Greatest(%v): %d, %v; want %d, %v", c.l, i, ok, c.want, c.ok)
		}
	}
}

func TestP2ListsAreLeftAsTheyAre(t *testing.T) {
	room := []float64{3, math.Copysign(0, -1), 9, 1, 7, 8}
	before := slices.Clone(room)
	weight.Sum(room[:3])
	weight.Greatest(room[:3])
	if !slices.EqualFunc(room, before, sameBits) {
		t.Errorf("the list is %v after the calls; it was %v", room, before)
	}
}
