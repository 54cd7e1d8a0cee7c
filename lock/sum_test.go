package lock_test

import (
	"hash/crc32"
	"math/rand"
	"strings"
	"testing"

	"manciple/api"
	"manciple/lock"
)

func TestP801Sum(t *testing.T) {
	for _, c := range []struct {
		s    string
		want uint32
	}{
		{"", 0},
		{"123456789", 0xCBF43926},
		{"a", 0xE8B7BE43},
		{"abc", 0x352441C2},
		{"\x00", 0xD202EF8D},
		{"\x00\x00\x00\x00", 0x2144DF1C},
		{"\xFF", 0xFF000000},
		{"\xFF\xFF\xFF\xFF", 0xFFFFFFFF},
		{"The quick brown fox jumps over the lazy dog", 0x414FA339},
	} {
		if sum := lock.Sum(c.s); sum != c.want {
			t.Errorf("Sum(%q): %08X; want %08X", c.s, sum, c.want)
		}
	}
}

func TestP801SumAgainstAnother(t *testing.T) {
	hold := func(s string) {
		t.Helper()
		if sum, want := lock.Sum(s), crc32.ChecksumIEEE([]byte(s)); sum != want {
			t.Errorf("Sum(%.80q): %08X; want %08X", s, sum, want)
		}
	}
	for a := range 256 {
		hold(string([]byte{byte(a)}))
		for b := range 256 {
			hold(string([]byte{byte(a), byte(b)}))
		}
	}
	random := rand.New(rand.NewSource(8010))
	for range 2000 {
		s := make([]byte, random.Intn(200))
		random.Read(s)
		hold(string(s))
	}
	// more than a text may have, and what is no text
	hold(strings.Repeat("é\xff\x00\n", api.MaxText))
}
