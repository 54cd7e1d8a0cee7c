package ver

import (
	"cmp"
	"strings"
)

func (v version) compare(w version) int {
	return cmp.Or(
		compareDigits(v.epoch, w.epoch),
		compareParts(v.part, w.part),
		compareParts(v.revision, w.revision),
	)
}

func compareParts(a, b string) int {
	for a != "" || b != "" {
		var x, y string
		x, a = cutDigits(a)
		y, b = cutDigits(b)
		if c := compareDigits(x, y); c != 0 {
			return c
		}
		x, a = cutOthers(a)
		y, b = cutOthers(b)
		if c := compareOthers(x, y); c != 0 {
			return c
		}
	}
	return 0
}

// compareDigits works on the digits themselves: a run may be too long for an
// integer.
func compareDigits(a, b string) int {
	a, b = bare(a), bare(b)
	return cmp.Or(cmp.Compare(len(a), len(b)), strings.Compare(a, b))
}

func compareOthers(a, b string) int {
	for i := range max(len(a), len(b)) {
		if c := cmp.Compare(rank(a, i), rank(b, i)); c != 0 {
			return c
		}
	}
	return 0
}

// rank is the place of byte i of a run in the order of P102; the run's end
// has a place too, between '~' and the letters.
func rank(run string, i int) int {
	switch {
	case i >= len(run):
		return 0
	case run[i] == '~':
		return -1
	case isLetter(run[i]):
		return int(run[i])
	}
	return 256 + int(run[i])
}
