// Package split is no layer: it is how the layers whose texts consist of lines
// cut them into these.
package split

import "strings"

// LineEnd is what each line of a text ends with.
const LineEnd = "\n"

// Lines returns the lines of s, without their ends. What stands after the last
// end is no line.
func Lines(s string) []string {
	lines := strings.Split(s, LineEnd)
	return lines[:len(lines)-1]
}
