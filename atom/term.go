package atom

import (
	"manciple/api"
	"manciple/fault"
	"manciple/rng"
)

const maxVersions = 16

// condition holds of the versions that compare with version as sign says.
type condition struct {
	sign, version string
}

// term is a range as a text tells it: a list of alternatives, each of them a
// list of conditions. The range of all versions is one alternative without
// conditions, and the range of none has no alternative.
type term [][]condition

// termOf tells a range Span by Span.
func termOf(r rng.Range) term {
	var t term
	for _, s := range r {
		t = append(t, conditionsOf(s))
	}
	return t
}

func conditionsOf(s rng.Span) []condition {
	if s.Lo == s.Hi && s.Lo != "" {
		return []condition{{"=", s.Lo}}
	}
	var l []condition
	if s.Lo != "" {
		l = append(l, condition{bound(">", s.LoIn), s.Lo})
	}
	if s.Hi != "" {
		l = append(l, condition{bound("<", s.HiIn), s.Hi})
	}
	return l
}

// bound returns the sign of a bound that is in its Span or not.
func bound(sign string, in bool) string {
	if in {
		return sign + "="
	}
	return sign
}

// versions counts the versions that the text of t holds.
func (t term) versions() int {
	n := 0
	for _, alternative := range t {
		n += len(alternative)
	}
	return n
}

// holds returns the range that t tells. It panics with an api.Errno if one of
// the versions is none.
func (t term) holds() rng.Range {
	var r rng.Range
	for _, alternative := range t {
		r = rng.Or(r, holdsAll(alternative))
	}
	return r
}

// holdsAll returns the range of the versions that fulfil every condition.
func holdsAll(l []condition) rng.Range {
	r := rng.All()
	for _, c := range l {
		one, err := rng.Of(c.sign, c.version)
		fault.Require(err == api.OK, err)
		r = rng.And(r, one)
	}
	return r
}
