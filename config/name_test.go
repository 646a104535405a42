package config_test

import (
	"slices"
	"strings"
	"testing"

	"horarium/api"
	"horarium/config"
)

// named: Name answers want, and Where what follows from it, of the first partition and of the last one.
func named(t *testing.T, s string, want bool) {
	t.Helper()
	if got := config.Name(s); got != want || names.MatchString(s) != want {
		t.Fatalf("Name(%.100q): %v", s, got)
	}
	for _, p := range []int{0, 5} {
		c := with(func(c *api.Config) { c.Parts[p].Name = s })
		if want && !slices.ContainsFunc(full().Parts, func(x api.Part) bool { return x.Name == s }) {
			is(t, c, api.OK, -1)
		} else if !want {
			is(t, c, api.ErrName, p)
		}
	}
}

func TestNameExamples(t *testing.T) {
	for s, want := range map[string]bool{
		"1a": false, "": false, "a": true, "z": true, "_": false, "0": false, "9": false, "a_": true, "_a": false, "a9": true, "a0z9_": true, "a__": true, "A": false, "aB": false, "Ab": false, "a b": false, " a": false, "a ": false, "a\n": false, "\na": false, "a\x00": false, "\x00": false,
		"a-b": false, "a.b": false, "a:": false, "a/": false, "a`": false, "a{": false, "`": false, "{": false, "@a": false, "[a": false, "a^": false, "aé": false, "é": false, "a\xff": false, "\xffa": false, "a\x80": false, "\u0430": false, "aａ": false, "a١": false, "ab\u0301": false,
		"twelve_chars": true, "thirteen_char": false, "elevenchars": true,
	} {
		named(t, s, want)
	}
}

// TestNameBytes: each byte, alone, first, between, last, of names of each length.
func TestNameBytes(t *testing.T) {
	const letters, others = "abcdefghijklmnopqrstuvwxyz", "0123456789_"
	for x := range 256 {
		b := string([]byte{byte(x)})
		named(t, b, strings.Contains(letters, b))
		for n := 1; n < 12; n++ {
			for at := range n + 1 {
				s := strings.Repeat("m", at) + b + strings.Repeat("m", n-at)
				named(t, s, strings.Contains(letters, b) || at > 0 && strings.Contains(others, b))
			}
		}
	}
}

// TestNameLengths: of no byte, of MaxName, of more, of a great many; bytes count, not letters.
func TestNameLengths(t *testing.T) {
	for n := range 40 {
		for _, s := range []string{"a", "z", "q"} {
			named(t, strings.Repeat(s, n), n > 0 && n < 13)
		}
		named(t, "a"+strings.Repeat("_", n), n < 12)
		named(t, "a"+strings.Repeat("7", n), n < 12)
		named(t, "_"+strings.Repeat("a", n), false)
		named(t, strings.Repeat("é", n), false)
		named(t, strings.Repeat("a", n)+"\xff", false)
	}
	named(t, strings.Repeat("a", 1<<24), false)
}
