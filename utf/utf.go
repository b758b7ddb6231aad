// Package utf is layer 1: texts of any bytes as runes, and back. All other layers read their texts through it.
package utf

import (
	"iter"
	"strings"
	"unicode/utf8"

	"rebus/api"
)

// Next answers the rune at a place and its width, 0 and 0 outside the text.
// The place may lie in the midst of a rune: what is read there are the bytes from it on.
func Next(s string, at int) (rune, int) {
	if at < 0 || at >= len(s) {
		return 0, 0
	}
	return utf8.DecodeRuneInString(s[at:])
}

// Places answers all places of the text, rising.
func Places(s string) []int {
	var places []int
	for at := range s {
		places = append(places, at)
	}
	return places
}

// Count answers how many places the text has.
func Count(s string) int {
	n := 0
	for range s {
		n++
	}
	return n
}

// Valid tells whether the text's bytes are those of runes throughout.
func Valid(s string) bool {
	for at, r := range s {
		if r == api.Bad && isOneByte(s, at) {
			return false
		}
	}
	return true
}

// isOneByte tells a byte that is no rune's from Bad written out, which has bytes of its own.
func isOneByte(s string, at int) bool {
	_, width := Next(s, at)
	return width == 1
}

// Encode answers the rune's bytes; a number that is no rune is written as Bad.
func Encode(r rune) string {
	return string(r)
}

// Cut answers the bytes of the first n runes, all of the text where it has no more.
func Cut(s string, n int) string {
	for at := range s {
		// Asked ahead of counting down, so that the lowest int doesn't wrap round.
		if n < 1 {
			return s[:at]
		}
		n--
	}
	return s
}

// Fix answers the text with Bad written out for each byte that is no rune's.
func Fix(s string) string {
	var fixed strings.Builder
	for _, r := range All(s) {
		fixed.WriteString(Encode(r))
	}
	return fixed.String()
}

// Back answers the text's runes from the last to the first, written as Fix writes them.
func Back(s string) string {
	places := Places(s)
	var back strings.Builder
	for i := len(places) - 1; i >= 0; i-- {
		r, _ := Next(s, places[i])
		back.WriteString(Encode(r))
	}
	return back.String()
}

// Lines answers the text cut at each byte 10.
func Lines(s string) []string {
	var lines []string
	for s != "" {
		line, rest, ended := strings.Cut(s, "\n")
		// A byte 13 belongs to a line's end only where a byte 10 follows it.
		if ended {
			line = strings.TrimSuffix(line, "\r")
		}
		lines = append(lines, line)
		s = rest
	}
	return lines
}

// All gives the places, rising, each with its rune.
func All(s string) iter.Seq2[int, rune] {
	return func(yield func(int, rune) bool) {
		for at, r := range s {
			if !yield(at, r) {
				return
			}
		}
	}
}
