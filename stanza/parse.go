package stanza

import (
	"strings"

	"manciple/api"
	"manciple/fault"
	"manciple/split"
)

const (
	separator = ": "
	maxKey    = 16
)

// parse panics with a line and an api.Errno if s is no text of stanzas.
func parse(s string) []Stanza {
	fault.Require(len(s) <= api.MaxText, api.ErrLong)
	fault.Require(s == "" || strings.HasSuffix(s, split.LineEnd), api.ErrForm)
	var d draft
	lines := split.Lines(s)
	for i, line := range lines {
		if line == "" {
			fault.RequireAt(len(d.last) > 0 && i < len(lines)-1, i, api.ErrForm)
			d.end()
		} else {
			d.add(fieldOf(line, i))
		}
	}
	d.end()
	return d.ended
}

// draft holds the stanzas that have ended, and the last one, to which fields
// are still added, with its keys.
type draft struct {
	ended []Stanza
	last  Stanza
	keys  map[string]struct{}
}

func (d *draft) add(f Field) {
	if len(d.last) == 0 {
		d.keys = map[string]struct{}{}
	}
	_, twice := d.keys[f.Key]
	fault.RequireAt(!twice, f.Line, api.ErrTwice)
	d.keys[f.Key] = struct{}{}
	d.last = append(d.last, f)
}

func (d *draft) end() {
	if len(d.last) > 0 {
		d.ended = append(d.ended, d.last)
		d.last = nil
	}
}

// fieldOf panics with number and an api.Errno if line is no field.
func fieldOf(line string, number int) Field {
	key, value, found := strings.Cut(line, separator)
	fault.RequireAt(found && isKey(key) && isValue(value), number, api.ErrForm)
	return Field{key, value, number}.clone()
}

func isKey(s string) bool {
	for i := range len(s) {
		if !isLetter(s[i]) {
			return false
		}
	}
	return s != "" && len(s) <= maxKey
}

func isLetter(c byte) bool { return 'A' <= c && c <= 'Z' || 'a' <= c && c <= 'z' }

func isValue(s string) bool {
	for i := range len(s) {
		if s[i] < 0x20 || s[i] > 0x7E {
			return false
		}
	}
	return true
}
