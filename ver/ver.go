// Package ver: versions. See doc/01-ver.md.
package ver

import (
	"strconv"

	"manciple/api"
	"manciple/fault"
)

// Check tells whether s is a version.
func Check(s string) (err api.Errno) {
	defer func() { err = fault.Raised(recover(), api.ErrVer) }()
	parse(s)
	return api.OK
}

// Canon writes a version in its canonical form.
func Canon(s string) (canon string, err api.Errno) {
	defer func() { err = fault.Raised(recover(), api.ErrVer) }()
	return parse(s).text(), api.OK
}

// Compare orders two versions. A string that is no version has no place in
// the order; a pair with one in it compares as 0.
func Compare(a, b string) (order int) {
	defer func() { recover() }()
	return parse(a).compare(parse(b))
}

// Epoch returns a version's epoch, and 0 for a string that is no version.
func Epoch(s string) (number int) {
	defer func() { recover() }()
	number, _ = strconv.Atoi(parse(s).epoch)
	return number
}
