package ask

import (
	"strings"

	"manciple/api"
	"manciple/atom"
	"manciple/fault"
	"manciple/split"
)

const separator = " "

// words has for each kind the word with which its lines begin.
var words = [...]string{Install: "install", Remove: "remove", Upgrade: "upgrade", Pin: "pin"}

// Text writes requests that Check accepts. With an error it tells the index of
// the request concerned.
func Text(l []Ask) (text string, i int, err api.Errno) {
	defer func() { i, err = fault.RaisedAt(recover(), api.ErrForm) }()
	return write(l), 0, api.OK
}

// write panics with an index and an api.Errno if l has no text.
func write(l []Ask) string {
	fault.Require(len(l) <= api.MaxAsks, api.ErrLong)
	var lines strings.Builder
	for i, a := range l {
		requireAsk(a, i)
		lines.WriteString(words[a.Kind] + separator + atom.Text(a.Atom) + split.LineEnd)
	}
	fault.Require(lines.Len() <= api.MaxText, api.ErrLong)
	return lines.String()
}

// Parse reads what Text writes, with atoms in any form that atom.Parse accepts.
// With an error it tells the line concerned.
func Parse(s string) (l []Ask, line int, err api.Errno) {
	defer func() { line, err = fault.RaisedAt(recover(), api.ErrForm) }()
	return read(s), 0, api.OK
}

// read panics with a line and an api.Errno if s is no text of requests.
func read(s string) []Ask {
	fault.Require(len(s) <= api.MaxText, api.ErrLong)
	fault.Require(s == "" || strings.HasSuffix(s, split.LineEnd), api.ErrForm)
	lines := split.Lines(s)
	fault.Require(len(lines) <= api.MaxAsks, api.ErrLong)
	var l []Ask
	for i, line := range lines {
		l = append(l, askOf(line, i))
	}
	return l
}

// askOf panics with number and an api.Errno if line is no request.
func askOf(line string, number int) Ask {
	word, rest, found := strings.Cut(line, separator)
	kind, known := kindOf(word)
	fault.RequireAt(found && known, number, api.ErrForm)
	about, wrong := atom.Parse(rest)
	fault.RequireAt(wrong == api.OK, number, wrong)
	a := Ask{kind, about}
	requireAsk(a, number)
	return a
}

// kindOf returns the kind whose lines begin with word.
func kindOf(word string) (kind int, known bool) {
	for kind, of := range words {
		if isKind(kind) && of == word {
			return kind, true
		}
	}
	return 0, false
}
