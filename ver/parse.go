package ver

import (
	"strings"

	"manciple/api"
	"manciple/fault"
)

const (
	digits         = "0123456789"
	maxEpochDigits = 6
)

// version holds the pieces of a version as they were written, "0" for a
// missing one: that is what it counts as wherever pieces are compared.
type version struct {
	epoch, part, revision string
}

// parse cuts s into its pieces and panics with an api.Errno if it is no version.
func parse(s string) version {
	fault.Require(len(s) <= api.MaxVer, api.ErrLong)
	v := version{epoch: "0", part: s, revision: "0"}
	if before, after, found := strings.Cut(v.part, ":"); found {
		v.epoch, v.part = before, after
	}
	if before, after, found := strings.Cut(v.part, "-"); found {
		v.part, v.revision = before, after
	}
	requireEpoch(v.epoch)
	requirePart(v.part)
	requirePart(v.revision)
	return v
}

func requireEpoch(s string) {
	fault.Require(s != "" && len(s) <= maxEpochDigits, api.ErrVer)
	for i := range len(s) {
		fault.Require(isDigit(s[i]), api.ErrVer)
	}
}

// requirePart looks at single bytes only: with a digit at both ends, runs of
// digits and of other characters alternate by themselves.
func requirePart(s string) {
	fault.Require(s != "" && isDigit(s[0]) && isDigit(s[len(s)-1]), api.ErrVer)
	for i := range len(s) {
		fault.Require(isDigit(s[i]) || isOther(s[i]), api.ErrVer)
	}
}

func isDigit(c byte) bool { return '0' <= c && c <= '9' }

func isLetter(c byte) bool { return 'a' <= c && c <= 'z' || 'A' <= c && c <= 'Z' }

func isOther(c byte) bool { return isLetter(c) || c == '.' || c == '+' || c == '~' }

// cutDigits splits a part after the digits that it begins with.
func cutDigits(part string) (run, rest string) {
	rest = strings.TrimLeft(part, digits)
	return part[:len(part)-len(rest)], rest
}

// cutOthers splits a part ahead of its first digit.
func cutOthers(part string) (run, rest string) {
	i := strings.IndexAny(part, digits)
	if i < 0 {
		i = len(part)
	}
	return part[:i], part[i:]
}

// bare returns a run of digits without its leading zeros.
func bare(run string) string {
	rest := strings.TrimLeft(run, "0")
	if rest == "" {
		return "0"
	}
	return rest
}
