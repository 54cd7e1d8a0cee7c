package rng

import (
	"cmp"
	"strings"

	"manciple/api"
	"manciple/ver"
)

const (
	below = -1
	above = 1
)

// cut is a place on the line of the versions: just below or just above one of
// them or, if version is empty, below or above all of them. Whether a bound is
// in its Span is so told by a place alone: Spans overlap, touch or lie apart as
// their cuts stand to each other.
type cut struct {
	version string
	side    int
}

func (c cut) compare(d cut) int {
	if c.version == "" || d.version == "" {
		return cmp.Compare(c.end(), d.end())
	}
	return cmp.Or(ver.Compare(c.version, d.version), cmp.Compare(c.side, d.side))
}

// end tells on which side of all versions a cut lies, 0 if among them.
func (c cut) end() int {
	if c.version == "" {
		return c.side
	}
	return 0
}

func (s Span) from() cut {
	if s.LoIn || s.Lo == "" {
		return cut{s.Lo, below}
	}
	return cut{s.Lo, above}
}

func (s Span) to() cut {
	if s.HiIn || s.Hi == "" {
		return cut{s.Hi, above}
	}
	return cut{s.Hi, below}
}

func (s Span) has(v string) bool {
	return s.from().compare(cut{v, below}) <= 0 && cut{v, above}.compare(s.to()) <= 0
}

// spanOf copies the versions: an answer shares no memory with what was handed
// in (P2).
func spanOf(from, to cut) Span {
	return Span{
		Lo:   strings.Clone(from.version),
		Hi:   strings.Clone(to.version),
		LoIn: from.version != "" && from.side == below,
		HiIn: to.version != "" && to.side == above,
	}
}

// cutsIn lists the cuts at which a range begins and ends by turns.
func cutsIn(r Range) []cut {
	var cuts []cut
	for _, s := range r {
		cuts = append(cuts, s.from(), s.to())
	}
	return cuts
}

// rangeOf is cutsIn the other way round, as far as a range may go.
func rangeOf(cuts []cut) Range {
	var r Range
	for i := 0; i < len(cuts) && len(r) < maxSpans; i += 2 {
		r = append(r, spanOf(cuts[i], cuts[i+1]))
	}
	return r
}

// cutsOf panics with an api.Errno if there is no such sign.
func cutsOf(sign, v string) []cut {
	first, under, over, last := cut{"", below}, cut{v, below}, cut{v, above}, cut{"", above}
	switch sign {
	case "=":
		return []cut{under, over}
	case "!=":
		return []cut{first, under, over, last}
	case "<":
		return []cut{first, under}
	case "<=":
		return []cut{first, over}
	case ">":
		return []cut{over, last}
	case ">=":
		return []cut{under, last}
	}
	panic(api.ErrForm)
}
