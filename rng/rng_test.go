package rng_test

import (
	"math/rand"
	"slices"
	"strconv"
	"strings"
	"testing"
	"unsafe"

	"manciple/api"
	"manciple/rng"
	"manciple/ver"
)

const maxSpans = 64

var long = strings.Repeat("1", api.MaxVer+1)

func only(v string) rng.Span { return rng.Span{Lo: v, Hi: v, LoIn: true, HiIn: true} }

// numbers returns n Spans of one version each: first, first+step and so on.
func numbers(n, first, step int) rng.Range {
	var r rng.Range
	for i := range n {
		r = append(r, only(strconv.Itoa(first+i*step)))
	}
	return r
}

func of(t *testing.T, sign, v string) rng.Range {
	t.Helper()
	r, err := rng.Of(sign, v)
	if err != api.OK {
		t.Fatalf("Of(%q, %q): %v", sign, v, err)
	}
	return r
}

// holdRange tells whether a result is the range wanted, and one for Check.
func holdRange(t *testing.T, what string, r, want rng.Range) {
	t.Helper()
	if !slices.Equal(r, want) {
		t.Errorf("%s: %v; want %v", what, r, want)
	}
	if err := rng.Check(r); err != api.OK {
		t.Errorf("%s: %v: %v", what, r, err)
	}
}

// wrongSpans are those that no list may hold, with the first of their errors.
func wrongSpans() map[rng.Span]api.Errno {
	return map[rng.Span]api.Errno{
		{Lo: "x"}:                       api.ErrVer,
		{Hi: "1."}:                      api.ErrVer,
		{Lo: " 1"}:                      api.ErrVer,
		{Lo: "01"}:                      api.ErrVer,
		{Hi: "0:1"}:                     api.ErrVer,
		{Hi: "1-0"}:                     api.ErrVer,
		{Lo: long}:                      api.ErrLong,
		{Hi: long}:                      api.ErrLong,
		{Lo: "01", Hi: long}:            api.ErrVer,
		{Lo: "x", Hi: long}:             api.ErrVer,
		{Lo: long, Hi: "01"}:            api.ErrLong,
		{LoIn: true, Hi: "01"}:          api.ErrVer,
		{HiIn: true, Lo: "x"}:           api.ErrVer,
		{Lo: "2", LoIn: true, Hi: "01"}: api.ErrVer,
		{LoIn: true}:                    api.ErrArg,
		{HiIn: true}:                    api.ErrArg,
		{LoIn: true, Hi: "1"}:           api.ErrArg,
		{HiIn: true, Lo: "1"}:           api.ErrArg,
		{LoIn: true, HiIn: true}:        api.ErrArg,
		{Lo: "2", Hi: "1"}:              api.ErrOrder,
		{Lo: "10", Hi: "9"}:             api.ErrOrder,
		{Lo: "1", Hi: "1~1"}:            api.ErrOrder,
		{Lo: "1:0", Hi: "9"}:            api.ErrOrder,
		{Lo: "2", Hi: "1", LoIn: true}:  api.ErrOrder,
		{Lo: "2", LoIn: true, Hi: "1", HiIn: true}: api.ErrOrder,
		{Lo: "1", Hi: "1"}:                         api.ErrOrder,
		{Lo: "1", Hi: "1", LoIn: true}:             api.ErrOrder,
		{Lo: "1", Hi: "1", HiIn: true}:             api.ErrOrder,
	}
}

func TestP301CheckOfOneSpan(t *testing.T) {
	for _, s := range []rng.Span{
		{}, {Lo: "1"}, {Hi: "1"}, {Lo: "1", LoIn: true}, {Hi: "1", HiIn: true}, {Lo: "1", Hi: "2"},
		{Lo: "1", LoIn: true, Hi: "2", HiIn: true}, only("1"), {Lo: "9", Hi: "10"}, {Lo: "1~1", Hi: "1"}, {Lo: "9", Hi: "1:0"},
		{Lo: long[1:], Hi: "1:0"},
	} {
		if err := rng.Check(rng.Range{s}); err != api.OK {
			t.Errorf("Check of %v: %v", s, err)
		}
	}
	for s, want := range wrongSpans() {
		if err := rng.Check(rng.Range{s}); err != want {
			t.Errorf("Check of %v: %v; want %v", s, err, want)
		}
		if err := rng.Check(rng.Range{{Hi: "0~1"}, s}); err != want {
			t.Errorf("Check of %v as the second: %v; want %v", s, err, want)
		}
	}
}

func TestP301CheckOfTwoSpans(t *testing.T) {
	for i, c := range []struct {
		r    rng.Range
		want api.Errno
	}{
		{rng.Range{{Hi: "1"}, {Lo: "2"}}, api.OK},
		{rng.Range{{Hi: "1"}, {Lo: "1"}}, api.OK},
		{rng.Range{{Hi: "1", HiIn: true}, {Lo: "2", LoIn: true}}, api.OK},
		{rng.Range{{Hi: "1", HiIn: true}, {Lo: "1"}}, api.ErrOrder},
		{rng.Range{{Hi: "1"}, {Lo: "1", LoIn: true}}, api.ErrOrder},
		{rng.Range{{Hi: "1", HiIn: true}, {Lo: "1", LoIn: true}}, api.ErrOrder},
		{rng.Range{{Hi: "2"}, {Lo: "1"}}, api.ErrOrder},
		{rng.Range{{Lo: "1", Hi: "9"}, {Lo: "2", Hi: "3"}}, api.ErrOrder},
		{rng.Range{{Lo: "5", Hi: "6"}, {Lo: "1", Hi: "2"}}, api.ErrOrder},
		{rng.Range{only("1"), only("1")}, api.ErrOrder},
		{rng.Range{{}, {}}, api.ErrOrder},
		{rng.Range{{}, {Lo: "1"}}, api.ErrOrder},
		{rng.Range{{Lo: "1"}, {Lo: "2"}}, api.ErrOrder},
		{rng.Range{{Hi: "1"}, {Hi: "2"}}, api.ErrOrder},
		{rng.Range{{Hi: "1"}, {}}, api.ErrOrder},
		{rng.Range{{Hi: "2"}, {Lo: "1", Hi: "01"}}, api.ErrVer},
		{rng.Range{{Hi: "2"}, {Lo: "1", HiIn: true}}, api.ErrArg},
		{rng.Range{{Hi: "2"}, {Lo: "1"}, {Lo: "x"}}, api.ErrOrder},
		{rng.Range{{Hi: "2"}, {Lo: "x"}, {Lo: "1"}}, api.ErrVer},
		{rng.Range{{Hi: "1"}, {Lo: "1", Hi: "2"}, {Lo: "2"}}, api.OK},
		{rng.Range{{Hi: "3"}, {Lo: "4", Hi: "5"}, {Lo: "3", Hi: "4"}}, api.ErrOrder},
	} {
		if err := rng.Check(c.r); err != c.want {
			t.Errorf("%d: Check(%v): %v; want %v", i, c.r, err, c.want)
		}
	}
}

// firstError is Check as P301 words it, bound by bound.
func firstError(r rng.Range) api.Errno {
	for i, s := range r {
		if i >= maxSpans {
			return api.ErrLong
		}
		for _, v := range []string{s.Lo, s.Hi} {
			if err := ver.Check(v); v != "" && err != api.OK {
				return err
			}
			if canon, _ := ver.Canon(v); canon != v {
				return api.ErrVer
			}
		}
		if s.LoIn && s.Lo == "" || s.HiIn && s.Hi == "" {
			return api.ErrArg
		}
		if s.Lo != "" && s.Hi != "" {
			if c := ver.Compare(s.Lo, s.Hi); c > 0 || c == 0 && !(s.LoIn && s.HiIn) {
				return api.ErrOrder
			}
		}
		if i > 0 && !liesAfter(s, r[i-1]) {
			return api.ErrOrder
		}
	}
	return api.OK
}

func liesAfter(s, before rng.Span) bool {
	if before.Hi == "" || s.Lo == "" {
		return false
	}
	c := ver.Compare(s.Lo, before.Hi)
	return c > 0 || c == 0 && !before.HiIn && !s.LoIn
}

// spansOver returns every Span over the bounds given, wrong ones too.
func spansOver(bounds ...string) []rng.Span {
	var all []rng.Span
	for _, lo := range bounds {
		for _, hi := range bounds {
			for flags := range 4 {
				all = append(all, rng.Span{Lo: lo, Hi: hi, LoIn: flags&1 != 0, HiIn: flags&2 != 0})
			}
		}
	}
	return all
}

func TestP301CheckAgainstItsWords(t *testing.T) {
	seen := map[api.Errno]bool{}
	for _, a := range spansOver("", "1", "2", "3", "01", "x", long) {
		for _, b := range spansOver("", "1", "2", "3", "01", "x", long) {
			r := rng.Range{a, b}
			want := firstError(r)
			seen[want] = true
			if err := rng.Check(r); err != want {
				t.Fatalf("Check(%v): %v; want %v", r, err, want)
			}
		}
	}
	if len(seen) != 5 {
		t.Errorf("only %v came up", seen)
	}
}

func TestP301CheckThe65th(t *testing.T) {
	r := numbers(maxSpans+1, 0, 1)
	if err := rng.Check(r[:maxSpans]); err != api.OK {
		t.Errorf("64 Spans: %v", err)
	}
	if err := rng.Check(r); err != api.ErrLong {
		t.Errorf("65 Spans: %v", err)
	}
	for s := range wrongSpans() {
		r[maxSpans] = s
		if err := rng.Check(r); err != api.ErrLong {
			t.Errorf("%v as the 65th: %v", s, err)
		}
	}
	for s, want := range wrongSpans() {
		r[maxSpans-1] = s
		if err := rng.Check(r); err != want {
			t.Errorf("%v as the 64th: %v; want %v", s, err, want)
		}
	}
	r[maxSpans-1] = only("5")
	if err := rng.Check(r); err != api.ErrOrder {
		t.Errorf("the 64th out of order: %v", err)
	}
}

func TestP301All(t *testing.T) {
	holdRange(t, "All", rng.All(), rng.Range{{}})
	for _, v := range []string{"0~~0", "0", "7.7-7", "999999:9"} {
		if !rng.Has(rng.All(), v) || rng.Has(nil, v) {
			t.Errorf("%q: not in All, or in the range without Spans", v)
		}
	}
}

func TestP301Of(t *testing.T) {
	for sign, want := range map[string]rng.Range{
		"=":  {only("1")},
		"!=": {{Hi: "1"}, {Lo: "1"}},
		"<":  {{Hi: "1"}},
		"<=": {{Hi: "1", HiIn: true}},
		">":  {{Lo: "1"}},
		">=": {{Lo: "1", LoIn: true}},
	} {
		for _, v := range []string{"1", "01", "0:1", "1-0", "00:001-00"} {
			holdRange(t, sign+v, of(t, sign, v), want)
		}
	}
}

func TestP301OfComparesAsItsSignSays(t *testing.T) {
	all := []string{"0~1", "0", "00-0", "0-1", "0a0", "0+0", "0.0", "1", "01", "1:0"}
	for _, v := range all {
		for _, w := range all {
			c := ver.Compare(w, v)
			for sign, want := range map[string]bool{
				"=": c == 0, "!=": c != 0, "<": c < 0, "<=": c <= 0, ">": c > 0, ">=": c >= 0,
			} {
				if rng.Has(of(t, sign, v), w) != want {
					t.Errorf("%q %s %q: %v", w, sign, v, !want)
				}
			}
		}
	}
}

func TestP301OfErrors(t *testing.T) {
	for _, sign := range []string{
		"", "==", "<>", "=<", "=>", "=!", "!", "~", "<=>", "<<", ">>", " =", "= ", "=\x00", "≤", "1", "&",
	} {
		for _, v := range []string{"1", "", "x", long} {
			if r, err := rng.Of(sign, v); len(r) != 0 || err != api.ErrForm {
				t.Errorf("Of(%q, %q): %v, %v", sign, v, r, err)
			}
		}
	}
	for _, sign := range []string{"=", "!=", "<", "<=", ">", ">="} {
		for v, want := range map[string]api.Errno{
			"": api.ErrVer, "x": api.ErrVer, "1 ": api.ErrVer, "1.": api.ErrVer, long: api.ErrLong, long + "x": api.ErrLong,
		} {
			if r, err := rng.Of(sign, v); len(r) != 0 || err != want {
				t.Errorf("Of(%q, %q): %v, %v; want %v", sign, v, r, err, want)
			}
		}
	}
}

func TestP301Norm(t *testing.T) {
	for i, c := range []struct {
		l    []rng.Span
		want rng.Range
	}{
		{nil, nil},
		{[]rng.Span{}, nil},
		{[]rng.Span{{}}, rng.All()},
		{[]rng.Span{{Lo: "3", Hi: "5"}, {Lo: "1", Hi: "2"}}, rng.Range{{Lo: "1", Hi: "2"}, {Lo: "3", Hi: "5"}}},
		{[]rng.Span{{Lo: "10"}, {Hi: "9"}}, rng.Range{{Hi: "9"}, {Lo: "10"}}},
		{[]rng.Span{{Lo: "1", Hi: "3"}, {Lo: "2", Hi: "5", HiIn: true}}, rng.Range{{Lo: "1", Hi: "5", HiIn: true}}},
		{[]rng.Span{{Lo: "1", Hi: "9"}, {Lo: "2", Hi: "3"}}, rng.Range{{Lo: "1", Hi: "9"}}},
		{[]rng.Span{{Lo: "1", Hi: "2"}, {Lo: "2", Hi: "3"}}, rng.Range{{Lo: "1", Hi: "2"}, {Lo: "2", Hi: "3"}}},
		{[]rng.Span{{Lo: "1", Hi: "2", HiIn: true}, {Lo: "2", Hi: "3"}}, rng.Range{{Lo: "1", Hi: "3"}}},
		{[]rng.Span{{Lo: "1", Hi: "2"}, {Lo: "2", Hi: "3", LoIn: true}}, rng.Range{{Lo: "1", Hi: "3"}}},
		{[]rng.Span{{Lo: "1"}, {Hi: "1"}, only("1")}, rng.All()},
		{[]rng.Span{only("1"), only("1"), only("1")}, rng.Range{only("1")}},
		{[]rng.Span{{Lo: "1", Hi: "2"}, {Lo: "1", Hi: "2", LoIn: true}}, rng.Range{{Lo: "1", Hi: "2", LoIn: true}}},
		{[]rng.Span{{Lo: "5"}, {Lo: "3", Hi: "4"}, {}}, rng.All()},
	} {
		r, err := rng.Norm(c.l)
		holdRange(t, "Norm "+strconv.Itoa(i), r, c.want)
		if err != api.OK {
			t.Errorf("%d: %v", i, err)
		}
	}
}

func TestP301NormErrors(t *testing.T) {
	for s, want := range wrongSpans() {
		for _, l := range [][]rng.Span{{s}, {{}, s}, {s, {}}, {{Lo: "2"}, s, {Lo: "01", Hi: long, HiIn: true}}} {
			if r, err := rng.Norm(l); len(r) != 0 || err != want {
				t.Errorf("Norm(%v): %v, %v; want %v", l, r, err, want)
			}
		}
	}
}

func TestP301NormOf65(t *testing.T) {
	l := make([]rng.Span, maxSpans+1)
	r, err := rng.Norm(l[:maxSpans])
	holdRange(t, "Norm of 64", r, rng.All())
	if err != api.OK {
		t.Errorf("Norm of 64: %v", err)
	}
	for s := range wrongSpans() {
		l[maxSpans] = s
		if r, err := rng.Norm(l); len(r) != 0 || err != api.ErrLong {
			t.Errorf("Norm of 65: %v, %v", r, err)
		}
	}
	for s, want := range wrongSpans() {
		l[maxSpans-1] = s
		if _, err := rng.Norm(l); err != want {
			t.Errorf("Norm with %v as the 64th of 65: %v; want %v", s, err, want)
		}
	}
	apart := numbers(maxSpans, 0, 1)
	backwards := slices.Clone(apart)
	slices.Reverse(backwards)
	r, err = rng.Norm(backwards)
	holdRange(t, "Norm of 64 apart", r, apart)
	if err != api.OK {
		t.Errorf("Norm of 64 apart: %v", err)
	}
}

func TestP301HasAnyFormOfAVersion(t *testing.T) {
	for v, want := range map[string]bool{
		"1": true, "01": true, "0:1-0": true, "1.0": false, "2": false, "02-00": false, "2-1": true, "1~1": false, "10": true, "1:0": true,
	} {
		if rng.Has(rng.Range{only("1"), {Lo: "2"}}, v) != want {
			t.Errorf("Has of %q: %v", v, !want)
		}
	}
}

func TestP301SameOfAny(t *testing.T) {
	all := append(spansOver("", "1", "01", "x"), rng.Span{Lo: long})
	for i, a := range all {
		for k, b := range all {
			if rng.Same(rng.Range{a}, rng.Range{b}) != (i == k) {
				t.Errorf("Same of %v and %v: %v", a, b, i != k)
			}
		}
	}
	for i, c := range []struct {
		a, b rng.Range
		want bool
	}{
		{nil, rng.Range{}, true},
		{nil, rng.All(), false},
		{rng.All(), nil, false},
		{rng.Range{{}, {Lo: "1"}}, rng.Range{{}, {Lo: "1"}}, true},
		{rng.Range{{}, {Lo: "1"}}, rng.Range{{Lo: "1"}, {}}, false},
		{rng.Range{{Lo: "1"}, {}}, rng.Range{{Lo: "1"}}, false},
		{make(rng.Range, 100), make(rng.Range, 100), true},
		{make(rng.Range, 100), make(rng.Range, 99), false},
	} {
		if rng.Same(c.a, c.b) != c.want {
			t.Errorf("%d: Same: %v", i, !c.want)
		}
	}
}

func TestP302Algebra(t *testing.T) {
	outer := rng.Or(of(t, "<", "2"), of(t, ">=", "5"))
	inner := rng.And(of(t, ">", "1"), of(t, "<=", "7"))
	for what, c := range map[string]struct{ r, want rng.Range }{
		"outer":            {outer, rng.Range{{Hi: "2"}, {Lo: "5", LoIn: true}}},
		"inner":            {inner, rng.Range{{Lo: "1", Hi: "7", HiIn: true}}},
		"outer and inner":  {rng.And(outer, inner), rng.Range{{Lo: "1", Hi: "2"}, {Lo: "5", Hi: "7", LoIn: true, HiIn: true}}},
		"outer or inner":   {rng.Or(outer, inner), rng.All()},
		"not outer":        {rng.Not(outer), rng.Range{{Lo: "2", Hi: "5", LoIn: true}}},
		"not inner":        {rng.Not(inner), rng.Range{{Hi: "1", HiIn: true}, {Lo: "7"}}},
		"not none":         {rng.Not(nil), rng.All()},
		"not all":          {rng.Not(rng.All()), nil},
		"outer and none":   {rng.And(outer, nil), nil},
		"none or inner":    {rng.Or(nil, inner), inner},
		"all and outer":    {rng.And(rng.All(), outer), outer},
		"all or outer":     {rng.Or(rng.All(), outer), rng.All()},
		"two of one bound": {rng.And(of(t, "<=", "1"), of(t, ">=", "1")), rng.Range{only("1")}},
		"sides of a bound": {rng.And(of(t, "<", "1"), of(t, ">", "1")), nil},
		"all but one":      {rng.Or(of(t, "<", "1"), of(t, ">", "1")), of(t, "!=", "1")},
		"a gap filled":     {rng.Or(of(t, "!=", "1"), of(t, "=", "1")), rng.All()},
		"a half filled":    {rng.Or(of(t, "<", "1"), of(t, ">=", "1")), rng.All()},
	} {
		holdRange(t, what, c.r, c.want)
	}
}

// around returns the Spans below, between and above n versions: 0, step and so on.
func around(n, step int) rng.Range {
	r := rng.Range{{}}
	for i := range n {
		v := strconv.Itoa(i * step)
		r[i].Hi = v
		r = append(r, rng.Span{Lo: v})
	}
	return r
}

func TestP302OnlyTheFirst64(t *testing.T) {
	even, odd := numbers(maxSpans, 0, 2), numbers(maxSpans, 1, 2)
	holdRange(t, "Not to 64", rng.Not(even[:63]), around(63, 2))
	holdRange(t, "Not to 65", rng.Not(even), around(maxSpans, 2)[:maxSpans])
	holdRange(t, "Or to 64", rng.Or(even[:32], odd[:32]), numbers(maxSpans, 0, 1))
	holdRange(t, "Or to 65", rng.Or(even[:33], odd[:32]), numbers(maxSpans, 0, 1))
	holdRange(t, "Or to 128", rng.Or(odd, even), numbers(maxSpans, 0, 1))
	holdRange(t, "And to 127", rng.And(around(63, 2), rng.Not(odd[:63])), around(126, 1)[:maxSpans])
}

func TestP302AllOf128SpansCount(t *testing.T) {
	even, far := numbers(maxSpans, 0, 2), numbers(maxSpans, 126, 2)
	holdRange(t, "Or to 1", rng.Or(even, around(63, 2)), rng.Range{{}})
	holdRange(t, "And to the last", rng.And(even, far), rng.Range{only("126")})
	holdRange(t, "And from the last", rng.And(far, even), rng.Range{only("126")})
	holdRange(t, "And to 64", rng.And(even, even), even)
	holdRange(t, "Or to a long one", rng.Or(even, rng.Range{{Lo: "1"}}), rng.Range{only("0"), {Lo: "1"}})
}

// keep lays r at the start of an array whose rest has to stay as it is too.
func keep(r rng.Range) rng.Range {
	spare := append(slices.Clone(r), rng.Span{Lo: "spare"}, rng.Span{Hi: "spare"})
	return spare[:len(r)]
}

func TestP2ArgumentsStayAsTheyAre(t *testing.T) {
	a := keep(rng.Range{{Lo: "1", Hi: "2"}, {Lo: "3", Hi: "4"}})
	b := keep(rng.Range{{Lo: "5", Hi: "6"}, {Lo: "1", Hi: "2"}, {Lo: "0", Hi: "2"}})
	before, beforeB := slices.Clone(a[:cap(a)]), slices.Clone(b[:cap(b)])
	rng.Check(a)
	rng.And(a, a)
	rng.Or(a, b[:1])
	rng.Not(a)
	rng.Norm(a)
	rng.Norm(b)
	rng.Has(a, "1")
	rng.Same(a, b)
	if !slices.Equal(a[:cap(a)], before) || !slices.Equal(b[:cap(b)], beforeB) {
		t.Errorf("now %v and %v", a[:cap(a)], b[:cap(b)])
	}
}

// spill changes r and what it might hand out of others' memory.
func spill(r rng.Range) {
	r = r[:cap(r)]
	for i := range r {
		r[i] = rng.Span{Lo: "spilt"}
	}
}

func TestP2ResultsAreNewMemory(t *testing.T) {
	a := keep(rng.Range{{Lo: "1", Hi: "2"}, {Lo: "3", Hi: "4"}})
	none := keep(nil)
	before := slices.Clone(a[:cap(a)])
	results := func() []rng.Range {
		normed, _ := rng.Norm(a)
		nothing, _ := rng.Norm(none)
		return []rng.Range{
			normed, nothing, of(t, "!=", "1"), rng.All(), rng.Not(a), rng.Not(none), rng.And(a, a), rng.And(a, rng.All()),
			rng.And(rng.All(), a), rng.Or(a, a), rng.Or(a, none), rng.Or(none, a),
		}
	}
	first, again := results(), results()
	for i := range first {
		want := slices.Clone(again[i])
		spill(first[i])
		if !slices.Equal(again[i], want) {
			t.Errorf("result %d shares memory with that of another call", i)
		}
	}
	if !slices.Equal(a[:cap(a)], before) || none[:1][0].Lo != "spare" {
		t.Errorf("a result shares memory with an argument")
	}
}

// isIn tells whether the bytes of v are some of those of s.
func isIn(v, s string) bool {
	at, from := uintptr(unsafe.Pointer(unsafe.StringData(v))), uintptr(unsafe.Pointer(unsafe.StringData(s)))
	return v != "" && from <= at && at < from+uintptr(len(s))
}

func TestP2ResultsHoldNewStrings(t *testing.T) {
	text := "111"
	v := strings.Clone(text)
	a := rng.Range{{Lo: v, LoIn: true}}
	normed, _ := rng.Norm(a)
	for i, r := range []rng.Range{normed, of(t, "<", v), of(t, "!=", v), rng.Not(a), rng.And(a, a), rng.Or(a, nil)} {
		for _, s := range r {
			if isIn(s.Lo, v) || isIn(s.Hi, v) {
				t.Errorf("result %d holds the string that was handed in", i)
			}
		}
	}
}

// anyRange returns a list of Spans that may be wrong in every way.
func anyRange(source *rand.Rand) rng.Range {
	texts := []string{"", "", "1", "2", "3", "01", "x", "1:", long, "\xff"}
	text := func() string { return texts[source.Intn(len(texts))] }
	var r rng.Range
	for range source.Intn(6) {
		r = append(r, rng.Span{Lo: text(), Hi: text(), LoIn: source.Intn(2) == 0, HiIn: source.Intn(2) == 0})
	}
	return r
}

func TestP1AnyArguments(t *testing.T) {
	source := rand.New(rand.NewSource(3))
	for range 20000 {
		a, b := anyRange(source), anyRange(source)
		beforeA, beforeB := slices.Clone(a), slices.Clone(b)
		for _, r := range []rng.Range{rng.And(a, b), rng.Or(a, b), rng.Not(a)} {
			spill(r)
		}
		rng.Has(a, "1")
		rng.Has(a, "x")
		rng.Has(a, "")
		if err := rng.Check(a); err != firstError(a) {
			t.Fatalf("Check(%v): %v; want %v", a, err, firstError(a))
		}
		if r, err := rng.Norm(a); err != api.OK && len(r) != 0 {
			t.Fatalf("Norm(%v): %v beside %v", a, r, err)
		}
		if !slices.Equal(a, beforeA) || !slices.Equal(b, beforeB) {
			t.Fatalf("an argument changed: %v and %v", beforeA, beforeB)
		}
	}
}

func TestP1LongArguments(t *testing.T) {
	many := make(rng.Range, 1<<16)
	for i := range many {
		many[i] = rng.Span{Lo: strconv.Itoa(len(many) - i), Hi: "5"}
	}
	for what, r := range map[string]rng.Range{"And": rng.And(many, many), "Or": rng.Or(many, many), "Not": rng.Not(many)} {
		if len(r) > maxSpans {
			t.Errorf("%s: %d Spans", what, len(r))
		}
	}
	rng.Has(many, "x")
	if err := rng.Check(many); err != api.ErrOrder {
		t.Errorf("Check: %v", err)
	}
}
