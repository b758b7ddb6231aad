package utf_test

import (
	"math"
	"slices"
	"strings"
	"testing"

	"rebus/api"
	"rebus/utf"
)

// badBytes are those of Bad written out.
const badBytes = "\xef\xbf\xbd"

// row is a row of the chapter's table: the lowest and the highest byte at each place, and the runes of these.
type row struct {
	low, high   string
	first, last rune
}

// rows is the chapter's table, with its fourth row split where its first byte leaves out ED.
func rows() []row {
	return []row{
		{"\x00", "\x7f", 0, 0x7F},
		{"\xc2\x80", "\xdf\xbf", 0x80, 0x7FF},
		{"\xe0\xa0\x80", "\xe0\xbf\xbf", 0x800, 0xFFF},
		{"\xe1\x80\x80", "\xec\xbf\xbf", 0x1000, 0xCFFF},
		{"\xee\x80\x80", "\xef\xbf\xbf", 0xE000, 0xFFFF},
		{"\xed\x80\x80", "\xed\x9f\xbf", 0xD000, 0xD7FF},
		{"\xf0\x90\x80\x80", "\xf0\xbf\xbf\xbf", 0x10000, 0x3FFFF},
		{"\xf1\x80\x80\x80", "\xf3\xbf\xbf\xbf", 0x40000, 0xFFFFF},
		{"\xf4\x80\x80\x80", "\xf4\x8f\xbf\xbf", 0x100000, 0x10FFFF},
	}
}

// begins tells whether a text begins with bytes of the row.
func (w row) begins(s string) bool {
	if len(s) < len(w.low) {
		return false
	}
	for i := range len(w.low) {
		if s[i] < w.low[i] || s[i] > w.high[i] {
			return false
		}
	}
	return true
}

// decode reads a text's first rune by the table alone, so that it can be held against Next.
func decode(table []row, s string) (rune, int) {
	free := []byte{0, 0x7F, 0x1F, 0x0F, 0x07}
	for _, w := range table {
		if !w.begins(s) {
			continue
		}
		width := len(w.low)
		r := rune(s[0] & free[width])
		for i := 1; i < width; i++ {
			r = r<<6 | rune(s[i]&0x3F)
		}
		return r, width
	}
	return api.Bad, 1
}

// found is what stands at one place.
type found struct {
	at    int
	r     rune
	width int
}

// decodeAll goes from place to place by the table alone.
func decodeAll(table []row, s string) []found {
	var all []found
	for at := 0; at < len(s); {
		r, width := decode(table, s[at:])
		all = append(all, found{at, r, width})
		at += width
	}
	return all
}

// edgeBytes are the ends of the table's ranges and the bytes just outside them.
func edgeBytes() []byte {
	return []byte{
		0x00, 0x7F, 0x80, 0x8F, 0x90, 0x9F, 0xA0, 0xBF, 0xC0, 0xC1, 0xC2, 0xDF,
		0xE0, 0xE1, 0xEC, 0xED, 0xEE, 0xEF, 0xF0, 0xF1, 0xF3, 0xF4, 0xF5, 0xFF,
	}
}

// eachText hands over every text of so many of the bytes.
func eachText(of []byte, length int, do func(string)) {
	var grow func(head string)
	grow = func(head string) {
		if len(head) == length {
			do(head)
			return
		}
		for _, b := range of {
			grow(head + string([]byte{b}))
		}
	}
	grow("")
}

// hardTexts are texts with good runes of each width beside bytes that are no rune's.
func hardTexts() []string {
	return []string{
		"", "a", "rebus", "aéb", "é€😀", "\x00\x7f", badBytes, badBytes + "\xff", "\xff\xfe",
		"\xed\xa0\x80", "\xed\xbf\xbf", "\xc0\x80", "\xc1\xbf", "\xe0\x9f\xbf", "\xf0\x8f\xbf\xbf",
		"\xf4\x90\x80\x80", "\xf8\x88\x80\x80\x80", "\xe2\x82", "\xe2\x82a", "\xf0\x9f\x98", "\xf0\x9f\x98😀",
		"\xc3", "\xc3é", "\x80\xbf", "a\xffé\xe2\x82€b", "\ud7ff\ue000\uffff", "\U00010000\U0010ffff", "e\u0301",
		strings.Repeat("é\xff", 500),
	}
}

func checkNext(t *testing.T, table []row, s string) {
	t.Helper()
	for at := range len(s) {
		r, width := utf.Next(s, at)
		if wr, ww := decode(table, s[at:]); r != wr || width != ww {
			t.Errorf("Next(%q, %d) = %x, %d, want %x, %d", s, at, r, width, wr, ww)
		}
	}
	for _, at := range []int{math.MinInt, -1, len(s), len(s) + 1, math.MaxInt} {
		if r, width := utf.Next(s, at); r != 0 || width != 0 {
			t.Errorf("Next(%q, %d) = %x, %d, want 0, 0", s, at, r, width)
		}
	}
}

func checkWhole(t *testing.T, table []row, s string) {
	t.Helper()
	want := decodeAll(table, s)
	var places []int
	valid := true
	var runes []rune
	for _, f := range want {
		places = append(places, f.at)
		runes = append(runes, f.r)
		valid = valid && !(f.r == api.Bad && f.width == 1)
	}
	if got := utf.Places(s); !slices.Equal(got, places) {
		t.Errorf("Places(%q) = %v, want %v", s, got, places)
	}
	if got := utf.Count(s); got != len(places) {
		t.Errorf("Count(%q) = %d, want %d", s, got, len(places))
	}
	if got := utf.Valid(s); got != valid {
		t.Errorf("Valid(%q) = %v, want %v", s, got, valid)
	}
	var allPlaces []int
	var allRunes []rune
	for at, r := range utf.All(s) {
		allPlaces = append(allPlaces, at)
		allRunes = append(allRunes, r)
	}
	if !slices.Equal(allPlaces, places) || !slices.Equal(allRunes, runes) {
		t.Errorf("All(%q) gives %v, %x, want %v, %x", s, allPlaces, allRunes, places, runes)
	}
}

// fixedBytes answers what Fix must answer, and the same from the last place on, by the table alone.
func fixedBytes(table []row, s string) (fixed, back string) {
	for _, f := range decodeAll(table, s) {
		piece := s[f.at : f.at+f.width]
		if f.r == api.Bad {
			piece = badBytes
		}
		fixed += piece
		back = piece + back
	}
	return fixed, back
}

func checkFix(t *testing.T, table []row, s string) {
	t.Helper()
	wantFixed, wantBack := fixedBytes(table, s)
	fixed, back := utf.Fix(s), utf.Back(s)
	if fixed != wantFixed {
		t.Errorf("Fix(%q) = %q, want %q", s, fixed, wantFixed)
	}
	if back != wantBack {
		t.Errorf("Back(%q) = %q, want %q", s, back, wantBack)
	}
	if !utf.Valid(fixed) || utf.Count(fixed) != utf.Count(s) {
		t.Errorf("Fix(%q) = %q is not valid, or has %d places", s, fixed, utf.Count(fixed))
	}
	if utf.Valid(s) && fixed != s {
		t.Errorf("Fix(%q), of a valid text, = %q", s, fixed)
	}
	if got := utf.Back(back); got != fixed {
		t.Errorf("Back of Back(%q) = %q, want %q", s, got, fixed)
	}
}

// P1.1: each row's ends are that row's ends in runes.
func TestNextEndsOfRows(t *testing.T) {
	for _, w := range rows() {
		for _, behind := range []string{"", "a", "\x80", "\xff"} {
			if r, width := utf.Next(w.low+behind, 0); r != w.first || width != len(w.low) {
				t.Errorf("Next(%q, 0) = %x, %d, want %x", w.low+behind, r, width, w.first)
			}
			if r, width := utf.Next("é"+w.high+behind, 2); r != w.last || width != len(w.high) {
				t.Errorf("Next(%q, 2) = %x, %d, want %x", "é"+w.high+behind, r, width, w.last)
			}
		}
	}
}

// P1.1: a byte just outside a row at any of its places, or one too few, makes another row or Bad of width 1.
func TestNextJustOutsideRows(t *testing.T) {
	table := rows()
	for _, w := range table {
		for i := range len(w.low) {
			below, above := []byte(w.low), []byte(w.high)
			below[i]--
			above[i]++
			checkNext(t, table, string(below))
			checkNext(t, table, string(above))
			if i > 0 {
				for _, s := range []string{string(below), string(above), w.low[:i], w.high[:i]} {
					if r, width := utf.Next(s, 0); r != api.Bad || width != 1 {
						t.Errorf("Next(%q, 0) = %x, %d, want Bad, 1", s, r, width)
					}
				}
			}
		}
	}
	for b := 0x80; b < 0x100; b++ {
		s := string([]byte{byte(b)})
		if r, width := utf.Next(s, 0); r != api.Bad || width != 1 {
			t.Errorf("Next(%q, 0) = %x, %d, want Bad, 1", s, r, width)
		}
	}
}

// P1.1: the chapter's examples of Next.
func TestNextExamples(t *testing.T) {
	for _, x := range []struct {
		s     string
		at    int
		r     rune
		width int
	}{
		{"é", 0, 0xE9, 2}, {"é", 1, api.Bad, 1}, {"é", 2, 0, 0}, {"é", -1, 0, 0}, {"", 0, 0, 0},
		{"\xed\xa0\x80", 0, api.Bad, 1}, {"\xed\xa0\x80", 1, api.Bad, 1}, {"\xed\xa0\x80", 2, api.Bad, 1},
		{"\xc0\x80", 0, api.Bad, 1}, {"\xe2\x82", 0, api.Bad, 1}, {badBytes, 0, api.Bad, 3},
		{"\x00", 0, 0, 1}, {"a\xc3\xa9", 2, api.Bad, 1}, {"😀", 0, 0x1F600, 4}, {"😀", 1, api.Bad, 1},
	} {
		if r, width := utf.Next(x.s, x.at); r != x.r || width != x.width {
			t.Errorf("Next(%q, %d) = %x, %d, want %x, %d", x.s, x.at, r, width, x.r, x.width)
		}
	}
	if got := utf.Places("\xed\xa0\x80"); !slices.Equal(got, []int{0, 1, 2}) {
		t.Errorf("a surrogate's bytes have the places %v", got)
	}
}

// P1.1, P1.3: every call, on all texts of two bytes and all of up to four edge bytes, against the table.
func TestAgainstTable(t *testing.T) {
	table := rows()
	check := func(s string) {
		checkNext(t, table, s)
		checkWhole(t, table, s)
		checkFix(t, table, s)
	}
	var every []byte
	for b := range 256 {
		every = append(every, byte(b))
	}
	eachText(every, 1, check)
	eachText(every, 2, check)
	eachText(edgeBytes(), 3, check)
	eachText(edgeBytes(), 4, func(s string) {
		checkNext(t, table, s)
		checkWhole(t, table, s)
	})
	for _, s := range hardTexts() {
		check(s)
	}
}

// P1.1: Valid tells Bad written out from bytes that are no rune's.
func TestValid(t *testing.T) {
	for s, want := range map[string]bool{
		"": true, "a": true, "é€😀": true, badBytes: true, "a" + badBytes + "b": true,
		"\xff": false, "a\xff": false, badBytes + "\xff": false, "\xef\xbf": false, "\xed\xa0\x80": false, "é\x80": false,
	} {
		if got := utf.Valid(s); got != want {
			t.Errorf("Valid(%q) = %v", s, got)
		}
	}
}

// P1.2: places and runes are those of a range over the string.
func TestRanging(t *testing.T) {
	check := func(s string) {
		var places []int
		var runes []rune
		for at, r := range s {
			places = append(places, at)
			runes = append(runes, r)
		}
		if got := utf.Places(s); !slices.Equal(got, places) {
			t.Errorf("Places(%q) = %v, want %v", s, got, places)
		}
		n := 0
		for at, r := range utf.All(s) {
			if n >= len(places) || at != places[n] || r != runes[n] {
				t.Fatalf("All(%q) gives %d, %x as number %d", s, at, r, n)
			}
			if next, _ := utf.Next(s, at); next != r {
				t.Errorf("Next(%q, %d) = %x, want %x", s, at, next, r)
			}
			n++
		}
		if n != len(places) || utf.Count(s) != n {
			t.Errorf("All(%q) gives %d, Count %d, want %d", s, n, utf.Count(s), len(places))
		}
	}
	for _, s := range hardTexts() {
		check(s)
	}
	eachText(edgeBytes(), 3, check)
}

// inRows tells whether a rune stands in a row of the table.
func inRows(table []row, r rune) bool {
	return slices.ContainsFunc(table, func(w row) bool { return w.first <= r && r <= w.last })
}

// P1.3: there and back, for each rune of the rows; a rune in no row is written as Bad.
func TestEncode(t *testing.T) {
	table := rows()
	for r := rune(-300); r <= 0x110000+300; r++ {
		got := utf.Encode(r)
		if !inRows(table, r) {
			if got != badBytes {
				t.Fatalf("Encode(%x) = %q, of no row", r, got)
			}
			continue
		}
		if back, width := decode(table, got); back != r || width != len(got) {
			t.Fatalf("Encode(%x) = %q, which the table reads as %x", r, got, back)
		}
		if next, width := utf.Next(got, 0); next != r || width != len(got) || utf.Count(got) != 1 || !utf.Valid(got) {
			t.Fatalf("Encode(%x) = %q, whose rune is %x, %d", r, got, next, width)
		}
	}
	for r, want := range map[rune]string{
		0: "\x00", 0x41: "A", 0xE9: "\xc3\xa9", 0x20AC: "\xe2\x82\xac", 0x1F600: "\xf0\x9f\x98\x80", api.Bad: badBytes,
		0xD7FF: "\xed\x9f\xbf", 0xD800: badBytes, 0xDFFF: badBytes, 0xE000: "\xee\x80\x80", 0x10FFFF: "\xf4\x8f\xbf\xbf",
		0x110000: badBytes, -1: badBytes, math.MinInt32: badBytes, math.MaxInt32: badBytes,
	} {
		if got := utf.Encode(r); got != want {
			t.Errorf("Encode(%x) = %q, want %q", r, got, want)
		}
	}
}

// P1.3: the chapter's examples of Fix and Back.
func TestFixAndBack(t *testing.T) {
	for _, x := range []struct{ s, fixed, back string }{
		{"", "", ""},
		{"aé€😀", "aé€😀", "😀€éa"},
		{"\xff", badBytes, badBytes},
		{"ab\xff", "ab" + badBytes, badBytes + "ba"},
		{"\xed\xa0\x80", badBytes + badBytes + badBytes, badBytes + badBytes + badBytes},
		{"\xa9\xc3", badBytes + badBytes, badBytes + badBytes},
		{"a\r\n", "a\r\n", "\n\ra"},
	} {
		if got := utf.Fix(x.s); got != x.fixed {
			t.Errorf("Fix(%q) = %q, want %q", x.s, got, x.fixed)
		}
		if got := utf.Back(x.s); got != x.back {
			t.Errorf("Back(%q) = %q, want %q", x.s, got, x.back)
		}
	}
}

func TestCut(t *testing.T) {
	for _, x := range []struct {
		s    string
		n    int
		want string
	}{
		{"aéb", 2, "aé"}, {"aéb", 3, "aéb"}, {"aéb", 4, "aéb"}, {"aéb", 1, "a"}, {"aéb", 0, ""},
		{"a", -1, ""}, {"a", math.MinInt, ""}, {"a", math.MaxInt, "a"}, {"", 0, ""}, {"", 1, ""}, {"", -1, ""},
		{"\xe2\x82a", 1, "\xe2"}, {"\xe2\x82a", 2, "\xe2\x82"}, {"a\xff", 2, "a\xff"}, {"😀\xff", 1, "😀"},
	} {
		if got := utf.Cut(x.s, x.n); got != x.want {
			t.Errorf("Cut(%q, %d) = %q, want %q", x.s, x.n, got, x.want)
		}
	}
}

// P1.4: what is cut off and what is left share out the text's places and runes.
func TestCutSharesOut(t *testing.T) {
	for _, s := range hardTexts() {
		all := []rune(s)
		for _, n := range []int{math.MinInt, -1, 0, 1, 2, 3, len(all) - 1, len(all), len(all) + 1, math.MaxInt} {
			least := min(max(n, 0), len(all))
			head := utf.Cut(s, n)
			rest, found := strings.CutPrefix(s, head)
			if !found {
				t.Errorf("Cut(%q, %d) = %q doesn't begin the text", s, n, head)
				continue
			}
			if utf.Count(head) != least || utf.Count(rest) != len(all)-least {
				t.Errorf("Cut(%q, %d) = %q: %d and %d places", s, n, head, utf.Count(head), utf.Count(rest))
			}
			if !slices.Equal(append([]rune(head), []rune(rest)...), all) {
				t.Errorf("Cut(%q, %d) = %q: other runes", s, n, head)
			}
		}
	}
}

func TestLines(t *testing.T) {
	for _, x := range []struct {
		s    string
		want []string
	}{
		{"", nil},
		{"a", []string{"a"}},
		{"a\n", []string{"a"}},
		{"\n", []string{""}},
		{"\n\n", []string{"", ""}},
		{"\na", []string{"", "a"}},
		{"a\n\nb\r\n", []string{"a", "", "b"}},
		{"a\r", []string{"a\r"}},
		{"\r", []string{"\r"}},
		{"\r\n", []string{""}},
		{"\r\r\n", []string{"\r"}},
		{"\n\r", []string{"", "\r"}},
		{"a\rb\nc\r", []string{"a\rb", "c\r"}},
		{"\xff\n\xe2\x82\r\né", []string{"\xff", "\xe2\x82", "é"}},
		{"a\u2028b\u0085c\v\f\n", []string{"a\u2028b\u0085c\v\f"}},
	} {
		if got := utf.Lines(x.s); !slices.Equal(got, x.want) {
			t.Errorf("Lines(%q) = %q, want %q", x.s, got, x.want)
		}
	}
}

// P1.5: lines written one by one are read as they were, but for one byte 13 at the end of each.
func TestLinesThereAndBack(t *testing.T) {
	var pieces []string
	for length := range 4 {
		eachText([]byte{'a', '\r', 0xFF, 0xC3}, length, func(s string) { pieces = append(pieces, s) })
	}
	var text strings.Builder
	var want []string
	for i, first := range pieces {
		text.WriteString(first + "\n")
		want = append(want, strings.TrimSuffix(first, "\r"))
		if got := utf.Lines(text.String()); !slices.Equal(got, want) {
			t.Fatalf("Lines of the first %d = %q, want %q", i+1, got, want)
		}
		last := append(slices.Clone(want), "z\r")
		if got := utf.Lines(text.String() + "z\r"); !slices.Equal(got, last) {
			t.Fatalf("Lines of the first %d and an open one = %q, want %q", i+1, got, last)
		}
	}
}

// P1.1: a sequence that is stopped early is whole when it is gone through again.
func TestAllStoppedAndAgain(t *testing.T) {
	const s = "é\xffa€"
	wantPlaces := []int{0, 2, 3, 4}
	wantRunes := []rune{0xE9, api.Bad, 'a', 0x20AC}
	seq := utf.All(s)
	for stop := 0; stop <= len(wantPlaces); stop++ {
		var places []int
		var runes []rune
		for at, r := range seq {
			places = append(places, at)
			runes = append(runes, r)
			if len(places) == stop {
				break
			}
		}
		n := stop
		if stop == 0 {
			n = len(wantPlaces)
		}
		if !slices.Equal(places, wantPlaces[:n]) || !slices.Equal(runes, wantRunes[:n]) {
			t.Errorf("stopped at %d: %v, %x", stop, places, runes)
		}
	}
	pairs := 0
	for range seq {
		for range seq {
			pairs++
		}
	}
	if pairs != len(wantPlaces)*len(wantPlaces) {
		t.Errorf("gone through within itself: %d", pairs)
	}
	for at, r := range utf.All("") {
		t.Errorf("All of no byte gives %d, %x", at, r)
	}
}

// P0, R4: lists are new memory: a caller that changes one doesn't change the next.
func TestListsAreNew(t *testing.T) {
	const s = "é\nb\n"
	places, lines := utf.Places(s), utf.Lines(s)
	for i := range places {
		places[i] = -1
	}
	for i := range lines {
		lines[i] = "changed"
	}
	if got := utf.Places(s); !slices.Equal(got, []int{0, 2, 3, 4}) {
		t.Errorf("Places(%q) = %v", s, got)
	}
	if got := utf.Lines(s); !slices.Equal(got, []string{"é", "b"}) {
		t.Errorf("Lines(%q) = %q", s, got)
	}
}

// P0: every call ends at long texts too.
func TestLongTexts(t *testing.T) {
	const n = 200000
	for _, piece := range []string{"a", "\n", "é", "\xff", "\xf0\x9f\x98"} {
		s := strings.Repeat(piece, n)
		count := n * utf.Count(piece)
		if utf.Count(s) != count || len(utf.Places(s)) != count || utf.Count(utf.Fix(s)) != count || utf.Back(utf.Back(s)) != utf.Fix(s) {
			t.Errorf("%d times %q", n, piece)
		}
		if head := utf.Cut(s, n); !strings.HasPrefix(s, head) || utf.Count(head) != n {
			t.Errorf("Cut of %d times %q", n, piece)
		}
	}
	if got := len(utf.Lines(strings.Repeat("\n", n))); got != n {
		t.Errorf("%d lines of %d", got, n)
	}
}
