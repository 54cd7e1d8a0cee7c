package split_test

import (
	"slices"
	"strings"
	"testing"

	"manciple/split"
)

func TestLines(t *testing.T) {
	for _, c := range []struct {
		s    string
		want []string
	}{
		{"", nil},
		{"a", nil},
		{"\n", []string{""}},
		{"a\n", []string{"a"}},
		{"a\nb", []string{"a"}},
		{"a\n\nb c\n", []string{"a", "", "b c"}},
		{"\n\n", []string{"", ""}},
		{"a\r\n\x00\n\xff\n", []string{"a\r", "\x00", "\xff"}},
		{strings.Repeat("\n", 1000), make([]string, 1000)},
	} {
		if l := split.Lines(c.s); !slices.Equal(l, c.want) {
			t.Errorf("Lines(%.40q): %.400q; want %.400q", c.s, l, c.want)
		}
	}
}

func TestLinesWithTheirEndsAreTheText(t *testing.T) {
	for _, s := range []string{"", "\n", "a\n", "\n\na\n", "a b\n\nc\n"} {
		text := ""
		for _, line := range split.Lines(s) {
			text += line + split.LineEnd
		}
		if text != s {
			t.Errorf("the lines of %q make %q", s, text)
		}
	}
}
