package fold_test

import (
	"math"
	"slices"
	"strconv"
	"strings"
	"testing"

	"rebus/fold"
	"rebus/utf"
)

// badBytes are those of Bad written out.
const badBytes = "\xef\xbf\xbd"

// highest is above every rune of the chapter's tables, and above every rune there is.
const highest = 0x110000 + 300

// The chapter's tables, in its own words: they are read here by a way of their own, to be held against the program.

type classRow struct {
	class int
	runes string
}

func classRows() []classRow {
	return []classRow{
		{1, "41 to 5A, 61 to 7A; C0 to FF but D7 and F7; 100 to 17F; 391 to 3A9 but 3A2; 3B1 to 3C9; 400 to 45F"},
		{2, "30 to 39"},
		{3, "9 to D, 20, A0"},
		{4, "300 to 36F"},
	}
}

// upperRow tells how much less the capital is than the rune.
type upperRow struct {
	runes string
	less  rune
}

func upperRows() []upperRow {
	return []upperRow{
		{"61 to 7A; E0 to FE but F7; 3B1 to 3C9 but 3C2; 430 to 44F", 0x20},
		{"FF", 0xFF - 0x178},
		{"3C2", 0x3C2 - 0x3A3},
		{"450 to 45F", 0x50},
		{"the odd ones of 101 to 137 but 131; the even ones of 13A to 148; the odd ones of 14B to 177; 17A, 17C, 17E", 1},
	}
}

type plainRow struct {
	runes, plain string
}

func plainRows() []plainRow {
	return []plainRow{
		{"C0 to C5, 100, 102, 104", "A"},
		{"C6", "AE"},
		{"C7, 106, 108, 10A, 10C", "C"},
		{"10E, 110", "D"},
		{"C8 to CB; 112, 114, 116, 118, 11A", "E"},
		{"11C, 11E, 120, 122", "G"},
		{"124, 126", "H"},
		{"CC to CF; 128, 12A, 12C, 12E, 130", "I"},
		{"134", "J"},
		{"136", "K"},
		{"139, 13B, 13D, 13F, 141", "L"},
		{"D1, 143, 145, 147", "N"},
		{"D2 to D6, D8; 14C, 14E, 150", "O"},
		{"152", "OE"},
		{"154, 156, 158", "R"},
		{"15A, 15C, 15E, 160", "S"},
		{"DF", "SS"},
		{"162, 164, 166", "T"},
		{"D9 to DC; 168, 16A, 16C, 16E, 170, 172", "U"},
		{"174", "W"},
		{"DD, 176, 178", "Y"},
		{"179, 17B, 17D", "Z"},
	}
}

// number reads a number of base 16.
func number(t *testing.T, s string) rune {
	t.Helper()
	n, err := strconv.ParseInt(s, 16, 32)
	if err != nil {
		t.Fatalf("no number of base 16: %q", s)
	}
	return rune(n)
}

// runesOf reads a row's runes: single ones and ranges, the odd or even ones of these, with those left out.
func runesOf(t *testing.T, row string) []rune {
	t.Helper()
	var all []rune
	for _, piece := range strings.FieldsFunc(row, func(r rune) bool { return r == ',' || r == ';' }) {
		piece, without, _ := strings.Cut(strings.TrimSpace(piece), " but ")
		var left []rune
		for _, one := range strings.Fields(strings.ReplaceAll(without, "and", "")) {
			left = append(left, number(t, one))
		}
		piece, odd := strings.CutPrefix(piece, "the odd ones of ")
		piece, even := strings.CutPrefix(piece, "the even ones of ")
		low, high, isRange := strings.Cut(piece, " to ")
		if !isRange {
			high = low
		}
		for r := number(t, low); r <= number(t, high); r++ {
			if odd && r&1 == 0 || even && r&1 == 1 || slices.Contains(left, r) {
				continue
			}
			all = append(all, r)
		}
	}
	return all
}

// tables are the chapter's three, read.
type tables struct {
	class map[rune]int
	upper map[rune]rune
	plain map[rune]string
}

func readTables(t *testing.T) tables {
	t.Helper()
	read := tables{map[rune]int{}, map[rune]rune{}, map[rune]string{}}
	for _, row := range classRows() {
		for _, r := range runesOf(t, row.runes) {
			read.class[r] = row.class
		}
	}
	for _, row := range upperRows() {
		for _, r := range runesOf(t, row.runes) {
			read.upper[r] = r - row.less
		}
	}
	for _, row := range plainRows() {
		for _, r := range runesOf(t, row.runes) {
			read.plain[r] = row.plain
		}
	}
	return read
}

func (x tables) upperOf(r rune) rune {
	if capital, ok := x.upper[r]; ok {
		return capital
	}
	return r
}

func (x tables) plainOf(r rune) string {
	if plain, ok := x.plain[r]; ok {
		return plain
	}
	return string(r)
}

func (x tables) fold(s string, plain bool) string {
	folded := ""
	for _, r := range s {
		if x.class[r] != 1 {
			continue
		}
		if plain {
			folded += x.plainOf(x.upperOf(r))
		} else {
			folded += string(x.upperOf(r))
		}
	}
	return folded
}

// words finds each piece by its two ends: a blank or the text's end stands before it and behind it.
func (x tables) words(s string) []string {
	var blanks []int
	var widths []int
	for at, r := range s {
		if x.class[r] == 3 {
			blanks = append(blanks, at)
			widths = append(widths, len(string(r)))
		}
	}
	blanks, widths = append(blanks, len(s)), append(widths, 0)
	var words []string
	from := 0
	for i, at := range blanks {
		if at > from {
			words = append(words, s[from:at])
		}
		from = at + widths[i]
	}
	return words
}

func (x tables) initials(s string) string {
	initials := ""
	for _, word := range x.words(s) {
		for _, r := range x.fold(word, true) {
			initials += string(r)
			break
		}
	}
	return initials
}

// noRunes are numbers that are no rune, with the edges of what is one.
func noRunes() []rune {
	return []rune{-1, -0x41, -0x61, -0x20, math.MinInt32, math.MinInt32 + 0x61, 0xD800, 0xDFFF, 0x110000, 0x110041, math.MaxInt32}
}

// eachRune hands over every rune, the numbers just outside, and those far out.
func eachRune(do func(r rune)) {
	for r := rune(-300); r <= highest; r++ {
		do(r)
	}
	for _, r := range noRunes() {
		do(r)
	}
}

// pieces are what hard texts are made of: every class, the edges of the tables, and bytes that are no rune's.
func pieces() []string {
	return []string{
		"a", "Z", "@", "[", "`", "{", "é", "É", "ß", "×", "÷", "ÿ", "Ÿ", "æ", "œ", "ı", "ŉ", "ſ", "\u0180",
		"ς", "Ω", "\u03a2", "ё", "Џ", "9", "-", "'", "(", "\u0300", "\u036f", " ", "\t", "\r\n", "\u00a0", "\u0085",
		"\u2003", "\xff", "\xa0", "\xc2", "\xc3", "\xe2\x82", "\xed\xa0\x80", badBytes, "\x00", "😀",
	}
}

// eachText hands over every text of at most so many pieces.
func eachText(length int, do func(s string)) {
	of := pieces()
	var grow func(head string, left int)
	grow = func(head string, left int) {
		do(head)
		if left == 0 {
			return
		}
		for _, piece := range of {
			grow(head+piece, left-1)
		}
	}
	grow("", length)
}

// longerTexts have more words than those of eachText.
func longerTexts() []string {
	return []string{
		"Crème brûlée!", "the Old (æther) 9 man", "  Bed dirty  room mess\u00a0(9) ", "Ёж и ς, Σ\u0301", "\t\n\v\f\r \u00a0",
		"\xc2 \xa0 \xc2\u00a0\xa0", "e\u0301\xff1", "Łódź\tŽilina\nŒuvre", "...\u0301 1st \u0301x", "a b c d e f g ß",
	}
}

// P2.1: the class of every rune is that of the chapter's table.
func TestClassEveryRune(t *testing.T) {
	want := readTables(t)
	eachRune(func(r rune) {
		if got := fold.Class(r); got != want.class[r] {
			t.Errorf("Class(%x) = %d, want %d", r, got, want.class[r])
		}
	})
}

// P2.1: the rows' ends, what is left out within them, and what stands just outside, written by hand.
func TestClassEdges(t *testing.T) {
	for class, runes := range map[int][]rune{
		0: {0, 0x8, 0xE, 0x1F, 0x21, 0x2F, 0x3A, 0x40, 0x5B, 0x60, 0x7B, 0x85, 0x9F, 0xA1, 0xAA, 0xBF, 0xD7, 0xF7, 0x180, 0x2FF,
			0x370, 0x390, 0x3A2, 0x3AA, 0x3B0, 0x3CA, 0x3FF, 0x460, 0x2003, 0x3000, 0xFFFD, 0x10FFFF},
		1: {0x41, 0x5A, 0x61, 0x7A, 0xC0, 0xD6, 0xD8, 0xF6, 0xF8, 0xFF, 0x100, 0x131, 0x138, 0x149, 0x17F, 0x391, 0x3A1, 0x3A3, 0x3A9,
			0x3B1, 0x3C2, 0x3C9, 0x400, 0x45F},
		2: {0x30, 0x39},
		3: {0x9, 0xA, 0xB, 0xC, 0xD, 0x20, 0xA0},
		4: {0x300, 0x301, 0x36F},
	} {
		for _, r := range runes {
			if got := fold.Class(r); got != class {
				t.Errorf("Class(%x) = %d, want %d", r, got, class)
			}
		}
	}
	for _, r := range noRunes() {
		if got := fold.Class(r); got != 0 {
			t.Errorf("Class(%x), of no rune, = %d", r, got)
		}
	}
}

// P2.1: the capital of every rune is that of the chapter's table.
func TestUpperEveryRune(t *testing.T) {
	want := readTables(t)
	eachRune(func(r rune) {
		if got := fold.Upper(r); got != want.upperOf(r) {
			t.Errorf("Upper(%x) = %x, want %x", r, got, want.upperOf(r))
		}
	})
}

// P2.1: the rows' ends, written by hand; then the runes just outside and within that are their own capitals.
func TestUpperEdges(t *testing.T) {
	for r, want := range map[rune]rune{
		0x61: 0x41, 0x7A: 0x5A, 0xE0: 0xC0, 0xF6: 0xD6, 0xF8: 0xD8, 0xFE: 0xDE, 0xFF: 0x178,
		0x101: 0x100, 0x12F: 0x12E, 0x133: 0x132, 0x137: 0x136, 0x13A: 0x139, 0x148: 0x147, 0x14B: 0x14A, 0x177: 0x176,
		0x17A: 0x179, 0x17C: 0x17B, 0x17E: 0x17D,
		0x3B1: 0x391, 0x3C1: 0x3A1, 0x3C2: 0x3A3, 0x3C3: 0x3A3, 0x3C9: 0x3A9,
		0x430: 0x410, 0x44F: 0x42F, 0x450: 0x400, 0x45F: 0x40F,
	} {
		if got := fold.Upper(r); got != want {
			t.Errorf("Upper(%x) = %x, want %x", r, got, want)
		}
	}
	own := []rune{
		0, 0x20, 0x40, 0x41, 0x5A, 0x60, 0x7B, 0xB5, 0xC0, 0xD7, 0xDF, 0xF7, 0x100, 0x102, 0x130, 0x131, 0x136, 0x138, 0x139, 0x13B,
		0x147, 0x149, 0x14A, 0x14C, 0x176, 0x178, 0x179, 0x17B, 0x17D, 0x17F, 0x180, 0x181, 0x391, 0x3A2, 0x3A9, 0x3AC, 0x3B0, 0x3CA,
		0x400, 0x40F, 0x410, 0x42F, 0x460, 0x461, 0xFFFD, 0x10FFFF,
	}
	for _, r := range append(own, noRunes()...) {
		if got := fold.Upper(r); got != r {
			t.Errorf("Upper(%x) = %x, want itself", r, got)
		}
	}
}

// P2.1: the plain form of every rune is that of the chapter's table; a number that is no rune is Bad written out.
func TestPlainEveryRune(t *testing.T) {
	want := readTables(t)
	eachRune(func(r rune) {
		if got := fold.Plain(r); got != want.plainOf(r) {
			t.Errorf("Plain(%x) = %q, want %q", r, got, want.plainOf(r))
		}
	})
	for _, r := range noRunes() {
		if got := fold.Plain(r); got != badBytes {
			t.Errorf("Plain(%x), of no rune, = %q", r, got)
		}
	}
}

// P2.1: only capitals have another plain form; of the other runes each is its own, letter or not.
func TestPlainEdges(t *testing.T) {
	for r, want := range map[rune]string{
		'A': "A", 'a': "a", 0xC0: "A", 0xC5: "A", 0xC6: "AE", 0xD0: "\u00d0", 0xD7: "\u00d7", 0xD8: "O", 0xDD: "Y", 0xDE: "\u00de",
		0xDF: "SS", 0xE0: "\u00e0", 0xE6: "\u00e6", 0xFF: "\u00ff", 0x101: "\u0101", 0x110: "D", 0x130: "I", 0x131: "\u0131",
		0x132: "\u0132", 0x138: "\u0138", 0x14A: "\u014a", 0x152: "OE", 0x153: "\u0153", 0x166: "T", 0x178: "Y", 0x17D: "Z", 0x17F: "\u017f",
		0x3A3: "\u03a3", 0x401: "\u0401", 0x301: "\u0301", 0x20: " ", 0: "\x00",
	} {
		if got := fold.Plain(r); got != want {
			t.Errorf("Plain(%x) = %q, want %q", r, got, want)
		}
	}
}

// P2.2, for every rune.
func TestCapitalsAndPlainForms(t *testing.T) {
	eachRune(func(r rune) {
		capital := fold.Upper(r)
		if fold.Upper(capital) != capital {
			t.Errorf("the capital of %x is %x, whose capital is %x", r, capital, fold.Upper(capital))
		}
		if fold.Class(capital) != fold.Class(r) {
			t.Errorf("%x has the class %d, its capital %d", r, fold.Class(r), fold.Class(capital))
		}
		if fold.Class(r) != 1 || capital != r {
			return
		}
		plain := fold.Plain(r)
		if plain == "" {
			t.Errorf("%x has no plain form", r)
		}
		for _, p := range plain {
			if fold.Class(p) != 1 || fold.Upper(p) != p || fold.Plain(p) != string(p) {
				t.Errorf("the plain form %q of %x has %x", plain, r, p)
			}
		}
	})
}

// P2.1: the chapter's examples of Fold, and edges.
func TestFold(t *testing.T) {
	for _, x := range []struct {
		s     string
		plain bool
		want  string
	}{
		{"Crème brûlée!", true, "CREMEBRULEE"}, {"Crème", false, "CRÈME"},
		{"ß œ Æ ÿ", true, "SSOEAEY"}, {"ß ÿ", false, "ßŸ"},
		{"e\u0301\xff1", true, "E"}, {"e\u0301\xff1", false, "E"},
		{"ς", false, "Σ"}, {"ς", true, "Σ"}, {"ёж", false, "ЁЖ"}, {"ёж", true, "ЁЖ"},
		{"", true, ""}, {"", false, ""}, {" \t\u00a0", true, ""}, {"0-9!\u0301", false, ""},
		{"\xff\xc3\xed\xa0\x80" + badBytes, false, ""}, {"a\xc3b", true, "AB"}, {"\xc3\xa9\xa9", false, "É"},
		{"ı×÷ĳŋþð", false, "ıĲŊÞÐ"}, {"ı×÷ĳŋþð", true, "ıĲŊÞÐ"}, {"đłøŁ", true, "DLOL"}, {"İ", true, "I"},
	} {
		if got := fold.Fold(x.s, x.plain); got != x.want {
			t.Errorf("Fold(%q, %v) = %q, want %q", x.s, x.plain, got, x.want)
		}
	}
}

// P2.1: the chapter's examples of Words, and edges.
func TestWords(t *testing.T) {
	for _, x := range []struct {
		s    string
		want []string
	}{
		{" a  b\u00a0c ", []string{"a", "b", "c"}},
		{"", nil}, {" ", nil}, {"\t\n\v\f\r \u00a0", nil},
		{"a", []string{"a"}}, {" a", []string{"a"}}, {"a ", []string{"a"}}, {"ab cd", []string{"ab", "cd"}},
		{"a\tb\nc\vd\fe\rf", []string{"a", "b", "c", "d", "e", "f"}},
		{"a\x08b\x0ec\u0085d\u2003e\u3000f", []string{"a\x08b\x0ec\u0085d\u2003e\u3000f"}},
		{"é\u0301! (ß)", []string{"é\u0301!", "(ß)"}},
		{"\xff \xe2\x82\t\xed\xa0\x80", []string{"\xff", "\xe2\x82", "\xed\xa0\x80"}},
		{"a\xa0b\xc2 \xa0", []string{"a\xa0b\xc2", "\xa0"}},
		{"\xc2\u00a0\xa0", []string{"\xc2", "\xa0"}},
		{badBytes + " \x00", []string{badBytes, "\x00"}},
	} {
		if got := fold.Words(x.s); !slices.Equal(got, x.want) {
			t.Errorf("Words(%q) = %q, want %q", x.s, got, x.want)
		}
	}
}

// P2.1: the chapter's example of Initials, and edges.
func TestInitials(t *testing.T) {
	for s, want := range map[string]string{
		"the Old (æther) 9 man": "TOAM", "": "", " ": "", "9 - \xff": "", "a": "A", "ab": "A", "\u0301élan œuvre ß": "EOS",
		"\xffa\xffb c": "AC", "ёж ς": "ЁΣ", "a\u00a0b\tc\nd": "ABCD", "(a)b 1c2d": "AC", "a-b": "A",
	} {
		if got := fold.Initials(s); got != want {
			t.Errorf("Initials(%q) = %q, want %q", s, got, want)
		}
	}
}

// P2.1, P2.3, P2.4: every text call against the tables, and the laws, on all short texts of the hard pieces.
func TestAgainstTables(t *testing.T) {
	want := readTables(t)
	check := func(s string) {
		for _, plain := range []bool{false, true} {
			if got := fold.Fold(s, plain); got != want.fold(s, plain) {
				t.Errorf("Fold(%q, %v) = %q, want %q", s, plain, got, want.fold(s, plain))
			}
		}
		if got := fold.Words(s); !slices.Equal(got, want.words(s)) {
			t.Errorf("Words(%q) = %q, want %q", s, got, want.words(s))
		}
		if got := fold.Initials(s); got != want.initials(s) {
			t.Errorf("Initials(%q) = %q, want %q", s, got, want.initials(s))
		}
		checkWordLaws(t, s)
	}
	eachText(3, check)
	for _, s := range longerTexts() {
		check(s)
	}
}

// checkWordLaws is P2.4 on one text.
func checkWordLaws(t *testing.T, s string) {
	t.Helper()
	words := fold.Words(s)
	if again := fold.Words(strings.Join(words, " ")); !slices.Equal(again, words) {
		t.Errorf("Words(%q) = %q, joined by spaces %q", s, words, again)
	}
	for _, plain := range []bool{false, true} {
		folded := ""
		for _, word := range words {
			folded += fold.Fold(word, plain)
		}
		if got := fold.Fold(s, plain); got != folded {
			t.Errorf("Fold(%q, %v) = %q, of its words %q", s, plain, got, folded)
		}
	}
}

// checkFoldAgain is P2.3 on one text, but for what it says of two.
func checkFoldAgain(t *testing.T, s string) {
	t.Helper()
	for _, plain := range []bool{false, true} {
		folded := fold.Fold(s, plain)
		if again := fold.Fold(folded, plain); again != folded {
			t.Errorf("Fold of Fold(%q, %v) = %q, want %q", s, plain, again, folded)
		}
	}
	if got, want := fold.Fold(fold.Fold(s, false), true), fold.Fold(s, true); got != want {
		t.Errorf("Fold of Fold(%q, false) with plain = %q, want %q", s, got, want)
	}
}

// P2.3: on the hard texts, and on each rune by itself.
func TestFoldAgain(t *testing.T) {
	eachText(2, func(s string) { checkFoldAgain(t, s) })
	for _, s := range longerTexts() {
		checkFoldAgain(t, s)
	}
	eachRune(func(r rune) { checkFoldAgain(t, string(r)) })
}

// P2.3: a valid text with another one behind it.
func TestFoldOfTwo(t *testing.T) {
	var texts []string
	eachText(1, func(s string) { texts = append(texts, s) })
	texts = append(texts, longerTexts()...)
	for _, first := range texts {
		if !utf.Valid(first) {
			continue
		}
		for _, second := range texts {
			for _, plain := range []bool{false, true} {
				want := fold.Fold(first, plain) + fold.Fold(second, plain)
				if got := fold.Fold(first+second, plain); got != want {
					t.Errorf("Fold(%q + %q, %v) = %q, want %q", first, second, plain, got, want)
				}
			}
		}
	}
}

// P2.5: of bytes below 80 (base 16) the letters alone are left, as capitals.
func TestFoldOfLowBytes(t *testing.T) {
	letters := func(s string) string {
		kept := strings.Map(func(r rune) rune {
			if 'a' <= r && r <= 'z' || 'A' <= r && r <= 'Z' {
				return r
			}
			return -1
		}, s)
		return strings.ToUpper(kept)
	}
	check := func(s string) {
		for _, plain := range []bool{false, true} {
			if got := fold.Fold(s, plain); got != letters(s) {
				t.Errorf("Fold(%q, %v) = %q, want %q", s, plain, got, letters(s))
			}
		}
	}
	var all []byte
	for first := range 0x80 {
		all = append(all, byte(first))
		for second := range 0x80 {
			check(string([]byte{byte(first), byte(second)}))
		}
	}
	check(string(all))
	check("The quick brown fox (5) jumps; over 13 lazy dogs!")
}

// P0, R4: lists are new memory: a caller that changes one doesn't change the next.
func TestListsAreNew(t *testing.T) {
	const s = " a bé "
	words := fold.Words(s)
	words[0], words[1] = "changed", "changed"
	_ = append(words[:1], "changed")
	if got := fold.Words(s); !slices.Equal(got, []string{"a", "bé"}) {
		t.Errorf("Words(%q) = %q", s, got)
	}
}

// P0: every call ends at long texts too.
func TestLongTexts(t *testing.T) {
	const n = 200000
	for _, x := range []struct{ piece, folded, initials string }{
		{"a", "A", ""}, {"ß ", "SS", "S"}, {"\u00a0", "", ""}, {"\xff", "", ""}, {"é\u0301\t", "E", "E"}, {"1 \xf0\x9f\x98", "", ""},
	} {
		s := strings.Repeat(x.piece, n)
		if got := fold.Fold(s, true); got != strings.Repeat(x.folded, n) {
			t.Errorf("Fold of %d times %q", n, x.piece)
		}
		if x.initials != "" {
			if got := fold.Initials(s); got != strings.Repeat(x.initials, n) || len(fold.Words(s)) != n {
				t.Errorf("Words and Initials of %d times %q", n, x.piece)
			}
		}
	}
	if got := fold.Initials(strings.Repeat("a", n)); got != "A" {
		t.Errorf("Initials of one long word = %q", got)
	}
	if got := len(fold.Words(strings.Repeat(" ", n))); got != 0 {
		t.Errorf("%d words of blanks alone", got)
	}
}
