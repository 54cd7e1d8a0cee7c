// Package ver: versions. See doc/01-ver.md.
package ver

import (
	"strconv"

	"manciple/api"
)

// Check tells whether s is a version.
func Check(s string) (err api.Errno) {
	defer func() { err = raised(recover()) }()
	parse(s)
	return api.OK
}

// Canon writes a version in its canonical form.
func Canon(s string) (canon string, err api.Errno) {
	defer func() { err = raised(recover()) }()
	return parse(s).text(), api.OK
}

// Compare orders two versions. A string that is no version has no place in
// the order; a pair with one in it compares as 0.
func Compare(a, b string) (order int) {
	defer func() { recover() }()
	return parse(a).compare(parse(b))
}

// Epoch returns a version's epoch, and 0 for a string that is no version.
func Epoch(s string) (number int) {
	defer func() { recover() }()
	number, _ = strconv.Atoi(parse(s).epoch)
	return number
}

// raised returns the error with which a panic was raised, OK for none.
func raised(fault any) api.Errno {
	switch e := fault.(type) {
	case nil:
		return api.OK
	case api.Errno:
		return e
	}
	// By P1 no panic leaves the package, and what was not read to its end
	// must not pass for a version.
	return api.ErrVer
}
