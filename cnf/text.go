package cnf

import (
	"strconv"
	"strings"

	"manciple/api"
	"manciple/fault"
	"manciple/split"
)

const (
	title     = "cnf"
	separator = " "
	clauseEnd = "0"
	maxText   = 4 * api.MaxText
	maxNumber = 999999 // has six digits
)

// Text writes clauses over the variables 1 to n.
func Text(n int, l []Clause) string {
	text := []byte(title + separator + strconv.Itoa(n) + separator + strconv.Itoa(len(l)) + split.LineEnd)
	for _, c := range l {
		for _, lit := range c {
			text = strconv.AppendInt(text, int64(lit), 10)
			text = append(text, separator...)
		}
		text = append(text, clauseEnd+split.LineEnd...)
	}
	return string(text)
}

// Parse reads what Text writes. With an error it tells the line concerned.
func Parse(s string) (n int, l []Clause, line int, err api.Errno) {
	defer func() { line, err = fault.RaisedAt(recover(), api.ErrForm) }()
	n, l = read(s)
	return n, l, 0, api.OK
}

// read panics with a line and an api.Errno if s is no text of clauses.
func read(s string) (int, []Clause) {
	fault.Require(len(s) <= maxText, api.ErrLong)
	fault.Require(strings.HasSuffix(s, split.LineEnd), api.ErrForm)
	lines := split.Lines(s)
	n, count := headOf(lines[0])
	fault.Require(len(lines)-1 == count, api.ErrForm)
	var l []Clause
	for i, line := range lines[1:] {
		l = append(l, clauseOf(line, i+1))
	}
	requireAll(n, l, 1)
	return n, l
}

// headOf returns how many variables and clauses the first line names. It panics
// with an api.Errno if line is no such line.
func headOf(line string) (n, count int) {
	words := strings.Split(line, separator)
	fault.Require(len(words) == 3 && words[0] == title, api.ErrForm)
	n, count = numberOf(words[1], 0), numberOf(words[2], 0)
	fault.Require(n >= 0 && count >= 0, api.ErrForm)
	return n, count
}

// clauseOf panics with number and an api.Errno if line is no clause's.
func clauseOf(line string, number int) Clause {
	words := strings.Split(line, separator)
	last := len(words) - 1
	fault.RequireAt(words[last] == clauseEnd, number, api.ErrForm)
	var c Clause
	for _, word := range words[:last] {
		lit := numberOf(word, number)
		fault.RequireAt(lit != 0, number, api.ErrForm)
		c = append(c, lit)
	}
	return c
}

// numberOf panics with line and an api.Errno if word is not how a number of at
// most six digits is written.
func numberOf(word string, line int) int {
	number, wrong := strconv.Atoi(word)
	fault.RequireAt(wrong == nil && strconv.Itoa(number) == word, line, api.ErrForm)
	fault.RequireAt(-maxNumber <= number && number <= maxNumber, line, api.ErrForm)
	return number
}
