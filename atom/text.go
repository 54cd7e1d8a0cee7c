package atom

import (
	"strings"

	"manciple/api"
	"manciple/fault"
	"manciple/rng"
)

const (
	none = "none"
	or   = " | "
	and  = " & "
)

func (t term) text() string {
	if len(t) == 0 {
		return none
	}
	var l []string
	for _, alternative := range t {
		l = append(l, alternativeText(alternative))
	}
	return strings.Join(l, or)
}

func alternativeText(alternative []condition) string {
	var l []string
	for _, c := range alternative {
		l = append(l, c.sign+" "+c.version)
	}
	return strings.Join(l, and)
}

// parse takes s apart. It panics with an api.Errno if s does not have the form
// of an atom; what stands for a name or a version may still be none.
func parse(s string) (name string, t term) {
	name, rest, ranged := strings.Cut(s, " ")
	requireWord(name)
	if !ranged {
		return name, termOf(rng.All())
	}
	return name, parseTerm(unwrap(rest))
}

func unwrap(s string) string {
	s, opens := strings.CutPrefix(s, "(")
	s, closes := strings.CutSuffix(s, ")")
	fault.Require(opens && closes, api.ErrForm)
	return s
}

func parseTerm(s string) term {
	var t term
	if s == none {
		return t
	}
	for _, alternative := range strings.Split(s, or) {
		t = append(t, parseAlternative(alternative))
	}
	return t
}

func parseAlternative(s string) []condition {
	var l []condition
	for _, c := range strings.Split(s, and) {
		l = append(l, parseCondition(c))
	}
	return l
}

func parseCondition(s string) condition {
	sign, version, _ := strings.Cut(s, " ")
	requireSign(sign)
	requireWord(version)
	return condition{sign, version}
}

// requireSign asks with a version that is one, so that only the sign can be
// what rng.Of refuses.
func requireSign(sign string) {
	_, err := rng.Of(sign, "0")
	fault.Require(err == api.OK, api.ErrForm)
}

// requireWord panics unless s may stand for a name or a version.
func requireWord(s string) {
	fault.Require(s != "" && !strings.ContainsAny(s, " ()"), api.ErrForm)
}
