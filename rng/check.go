package rng

import (
	"manciple/api"
	"manciple/fault"
	"manciple/ver"
)

const maxSpans = 64

// requireSpan panics with an api.Errno if s may not stand at place i of a list,
// whatever the Spans ahead of it are.
func requireSpan(i int, s Span) {
	fault.Require(i < maxSpans, api.ErrLong)
	requireBound(s.Lo)
	requireBound(s.Hi)
	fault.Require(s.Lo != "" || !s.LoIn, api.ErrArg)
	fault.Require(s.Hi != "" || !s.HiIn, api.ErrArg)
	fault.Require(s.from().compare(s.to()) < 0, api.ErrOrder)
}

func requireBound(v string) {
	if v == "" {
		return
	}
	canon, err := ver.Canon(v)
	fault.Require(err == api.OK, err)
	fault.Require(v == canon, api.ErrVer)
}

// requireAfter panics with an api.Errno if the Spans are not in order or if they
// could be one.
func requireAfter(s, before Span) {
	fault.Require(before.to().compare(s.from()) < 0, api.ErrOrder)
}
