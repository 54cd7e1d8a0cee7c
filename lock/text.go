package lock

import (
	"strconv"
	"strings"

	"manciple/api"
	"manciple/fault"
	"manciple/split"
)

const (
	separator = " "
	sumWord   = "sum"
	sumDigits = 8
)

// Write writes the text of a list that Check accepts.
func Write(l Lock) (text string, err api.Errno) {
	defer func() { err = fault.Raised(recover(), api.ErrForm) }()
	requireLock(l)
	entries := entryLines(l)
	return entries + sumLine(entries), api.OK
}

func entryLines(l Lock) string {
	var lines strings.Builder
	for _, e := range l {
		lines.WriteString(e.Name + separator + e.Ver + split.LineEnd)
	}
	return lines.String()
}

// sumLine returns the line that closes a text of these lines.
func sumLine(lines string) string {
	digits := strconv.FormatUint(uint64(Sum(lines)), 16)
	return sumWord + separator + strings.Repeat("0", sumDigits-len(digits)) + digits + split.LineEnd
}

// Read reads what Write writes, and nothing else. With an error it tells the
// line concerned.
func Read(s string) (l Lock, line int, err api.Errno) {
	defer func() { line, err = fault.RaisedAt(recover(), api.ErrForm) }()
	return read(s), 0, api.OK
}

// read panics with a line and an api.Errno if s is no text that Write writes.
func read(s string) Lock {
	fault.Require(len(s) <= api.MaxText, api.ErrLong)
	fault.Require(strings.HasSuffix(s, split.LineEnd), api.ErrForm)
	entries, last := cutLastLine(s)
	fault.RequireAt(last == sumLine(entries), strings.Count(entries, split.LineEnd), api.ErrSum)
	var l Lock
	for i, line := range split.Lines(entries) {
		l = append(l, entryOf(line, i))
	}
	requireLock(l) // the index of an entry is the number of its line
	return l
}

// cutLastLine splits s, which has a line end as its last byte, ahead of its last
// line.
func cutLastLine(s string) (before, last string) {
	start := strings.LastIndex(strings.TrimSuffix(s, split.LineEnd), split.LineEnd) + 1
	return s[:start], s[start:]
}

// entryOf panics with number and an api.Errno if line is not of two words.
func entryOf(line string, number int) Entry {
	name, v, _ := strings.Cut(line, separator) // without a blank, v is empty and so no word
	fault.RequireAt(isWord(name) && isWord(v), number, api.ErrForm)
	return Entry{strings.Clone(name), strings.Clone(v)} // an answer shares no memory with what was handed in (P2)
}

func isWord(s string) bool {
	for i := range len(s) {
		if s[i] < 0x21 || s[i] > 0x7E {
			return false
		}
	}
	return s != ""
}
