package pattern_test

import (
	"math"
	"regexp"
	"slices"
	"strings"
	"testing"
	"unicode/utf8"

	"rebus/alpha"
	"rebus/api"
	"rebus/lexicon"
	"rebus/mask"
	"rebus/pattern"
)

// numbers are ints that may stand in a word, about each limit and at the ends of all ints.
var numbers = []int{math.MinInt, math.MinInt + 1, -1 << 32, -256, -65, -64, -63, -2, -1, 0, 1, 2, 3, 39, 40, 62, 63, 64, 65, 127, 128, 255, 256, 257, 1 << 32, 1<<32 + 1, math.MaxInt - 1, math.MaxInt}

// masks are words of which each is a mask, with few numbers, many, and none.
var masks = []uint64{0, 1, 2, 3, 5, 1 << 31, 1 << 39, 1<<40 - 1, 1 << 40, 1<<40 + 1, 1 << 62, 1 << 63, 0x5555555555555555, math.MaxUint64 - 1, math.MaxUint64}

// lots draws numbers that are the same in every run.
type lots uint64

func (l *lots) below(n int) int {
	*l = *l*6364136223846793005 + 1442695040888963407
	return int(uint64(*l) >> 33 % uint64(n))
}

// of draws one of the list.
func of[T any](l *lots, list ...T) T {
	return list[l.below(len(list))]
}

// word draws 64 bits.
func (l *lots) word() uint64 {
	return uint64(l.below(1<<31))<<33 ^ uint64(l.below(1<<31))<<16 ^ uint64(l.below(1<<31))
}

// rules are the chapter's, for one alphabet, in expressions.
type rules struct {
	a              *alpha.Alphabet
	names          []string
	begin, element *regexp.Regexp
}

// rulesOf are those of the alphabet with these letters, or of a nil one.
func rulesOf(t *testing.T, names ...string) rules {
	t.Helper()
	r := rules{names: names}
	one := `[^\x{0}-\x{10FFFF}]`
	if len(names) > 0 {
		a, at, e := alpha.New(names)
		if e != api.OK {
			t.Fatalf("%q: %d, %d", names, at, e)
		}
		r.a = a
		// What stands first is tried first: the longest.
		sorted := slices.Clone(names)
		slices.SortStableFunc(sorted, func(p, q string) int { return len(q) - len(p) })
		one = "(?:" + strings.Join(sorted, "|") + ")"
	}
	r.begin = regexp.MustCompile(`^(?:[?\[]|` + one + `)`)
	r.element = regexp.MustCompile(`^(?:\?|` + one + `|\[\^?` + one + `(?:,` + one + `)*\])`)
	return r
}

// parse is the chapter's Parse.
func (r rules) parse(text string) ([]uint64, int, api.Errno) {
	var p []uint64
	for at := 0; at < len(text); {
		written := r.element.FindString(text[at:])
		switch {
		case !r.begin.MatchString(text[at:]):
			return nil, at, 100
		case len(p) == 32:
			return nil, at, 34
		case written == "":
			return nil, at, 100
		}
		p = append(p, r.maskOf(written))
		at += len(written)
	}
	return p, 0, 0
}

// maskOf is the mask of one element.
func (r rules) maskOf(written string) uint64 {
	said, isOthers := strings.CutPrefix(strings.Trim(written, "[]"), "^")
	letters := strings.Split(said, ",")
	m := uint64(0)
	for i, name := range r.names {
		if written == "?" || slices.Contains(letters, name) != isOthers {
			m += 1 << i
		}
	}
	return m
}

// print is the chapter's Print.
func (r rules) print(p []uint64) (string, int, api.Errno) {
	for i, m := range p {
		if len(r.names) == 0 || m>>len(r.names) != 0 {
			return "", i, 100
		}
	}
	if len(p) > 32 {
		return "", 32, 34
	}
	text := ""
	for _, m := range p {
		text += r.elementOf(m)
	}
	return text, 0, 0
}

// elementOf is how one mask is written.
func (r rules) elementOf(m uint64) string {
	var in, out []string
	isPlain := true
	for i, name := range r.names {
		isPlain = isPlain && utf8.RuneCountInString(name) == 1
		if m>>i%2 == 1 {
			in = append(in, name)
		} else {
			out = append(out, name)
		}
	}
	switch {
	case len(out) == 0:
		return "?"
	case len(in) == 1 && isPlain:
		return in[0]
	case len(in) > 0 && len(in) <= len(out):
		return "[" + strings.Join(in, ",") + "]"
	}
	return "[^" + strings.Join(out, ",") + "]"
}

// wantMatch is the chapter's Match.
func wantMatch(p []uint64, cells []int) bool {
	if len(p) != len(cells) {
		return false
	}
	for i := range p {
		if !slices.Contains(mask.List(p[i]), cells[i]) {
			return false
		}
	}
	return true
}

// compareParse holds Parse of the text against what the chapter asks, and what it reads against Print of it.
func (r rules) compareParse(t *testing.T, text string) {
	t.Helper()
	p, at, e := pattern.Parse(r.a, text)
	want, wantAt, wantE := r.parse(text)
	if !slices.Equal(p, want) || at != wantAt || e != wantE {
		t.Fatalf("%q: Parse(%.200q) = %x, %d, %d, want %x, %d, %d", r.names, text, p, at, e, want, wantAt, wantE)
	}
	if e == api.OK && r.a != nil {
		r.comparePrint(t, p)
	}
}

// comparePrint holds Print of the pattern against what the chapter asks, and Parse of what it writes against the pattern.
func (r rules) comparePrint(t *testing.T, p []uint64) {
	t.Helper()
	text, at, e := pattern.Print(r.a, p)
	want, wantAt, wantE := r.print(p)
	if text != want || at != wantAt || e != wantE {
		t.Fatalf("%q: Print(%x) = %.200q, %d, %d, want %.200q, %d, %d", r.names, p, text, at, e, want, wantAt, wantE)
	}
	if e != api.OK {
		return
	}
	if again, at, e := pattern.Parse(r.a, text); !slices.Equal(again, p) || at != 0 || e != api.OK {
		t.Fatalf("%q: Parse(%q) = %x, %d, %d, want %x", r.names, text, again, at, e, p)
	}
}

// forty is the greatest alphabet of letters of one rune.
func forty() []string {
	var names []string
	for r := rune('A'); r <= 'Z'; r++ {
		names = append(names, string(r))
	}
	for r := rune(0x410); len(names) < 40; r++ {
		names = append(names, string(r))
	}
	return names
}

// allRules are those of alphabets of many kinds: letters that begin, end or hold one another, of one byte to six.
func allRules(t *testing.T) []rules {
	t.Helper()
	long := forty()
	long[7], long[39] = "АБА", "АБ"
	var list []rules
	for _, names := range [][]string{
		{"A"},
		{"AB"},
		{"B", "A"},
		{"A", "AB"},
		{"A", "B", "C"},
		{"AA", "AAA", "A"},
		{"AAA", "AA"},
		{"A", "B", "C", "D"},
		{"É", "Я", "ß", "A"},
		{"A", "B", "C", "CH", "H"},
		{"ÉЯA", "É", "ЯA", "Я", "AÉ"},
		{"C", "H", "CH", "A", "L", "LL"},
		forty(),
		long,
	} {
		list = append(list, rulesOf(t, names...))
	}
	return list
}

// P10.1: the chapter's examples.
func TestExamples(t *testing.T) {
	r := rulesOf(t, "A", "B", "C", "CH", "H")
	for _, x := range []struct {
		text string
		want []uint64
		at   int
		e    api.Errno
	}{
		{"?CH[A,B][^A]", []uint64{mask.Full(5), mask.Of(3), mask.Of(0, 1), mask.Of(1, 2, 3, 4)}, 0, api.OK},
		{"C?", []uint64{mask.Of(2), mask.Full(5)}, 0, api.OK},
		{"A[B", nil, 1, api.ErrPattern},
		{"A[]", nil, 1, api.ErrPattern},
		{"A[A,]", nil, 1, api.ErrPattern},
		{"Ax", nil, 1, api.ErrPattern},
	} {
		p, at, e := pattern.Parse(r.a, x.text)
		if !slices.Equal(p, x.want) || at != x.at || e != x.e {
			t.Errorf("Parse(%q) = %x, %d, %d", x.text, p, at, e)
		}
		r.compareParse(t, x.text)
	}
	if text, at, e := pattern.Print(r.a, []uint64{mask.Of(2), mask.Of(4)}); text != "[C][H]" || at != 0 || e != api.OK {
		t.Error("Print", text, at, e)
	}
	d := rulesOf(t, "A", "B", "C", "D")
	p := []uint64{mask.Of(0), mask.Of(1, 2), mask.Of(1, 2, 3), mask.Full(4), 0}
	if text, at, e := pattern.Print(d.a, p); text != "A[B,C][^A]?[^A,B,C,D]" || at != 0 || e != api.OK {
		t.Error("Print", text, at, e)
	}
	both, ok := pattern.Meet([]uint64{mask.Of(0, 1), mask.Of(1)}, []uint64{mask.Of(1), mask.Full(4)})
	if !slices.Equal(both, []uint64{mask.Of(1), mask.Of(1)}) || !ok {
		t.Error("Meet", both, ok)
	}
}

// P10.1: what each element says, and the place of each fault.
func TestParse(t *testing.T) {
	r := rulesOf(t, "C", "H", "CH", "É", "ÉÉÉ")
	for _, x := range []struct {
		why, text string
		want      []uint64
		at        int
		e         api.Errno
	}{
		{"no element", "", nil, 0, api.OK},
		{"any letter", "?", []uint64{31}, 0, api.OK},
		{"a letter", "H", []uint64{2}, 0, api.OK},
		{"the longest letter", "CH", []uint64{4}, 0, api.OK},
		{"the longest letter at each place", "CCHH", []uint64{1, 4, 2}, 0, api.OK},
		{"a letter that begins a longer one", "ÉÉ", []uint64{8, 8}, 0, api.OK},
		{"letters of three runes", "ÉÉÉÉ", []uint64{16, 8}, 0, api.OK},
		{"brackets", "[H]", []uint64{2}, 0, api.OK},
		{"the longest letter in brackets", "[CH]", []uint64{4}, 0, api.OK},
		{"two letters", "[C,H]", []uint64{3}, 0, api.OK},
		{"letters in any order", "[É,CH,C]", []uint64{13}, 0, api.OK},
		{"a letter that stands twice", "[H,C,H]", []uint64{3}, 0, api.OK},
		{"all letters", "[C,H,CH,É,ÉÉÉ]", []uint64{31}, 0, api.OK},
		{"others", "[^H]", []uint64{29}, 0, api.OK},
		{"others, twice", "[^H,H]", []uint64{29}, 0, api.OK},
		{"others of some", "[^ÉÉÉ,C]", []uint64{14}, 0, api.OK},
		{"others of all", "[^C,H,CH,É,ÉÉÉ]", []uint64{0}, 0, api.OK},
		{"elements side by side", "[C][H]?C?[^H]H", []uint64{1, 2, 31, 1, 31, 29, 2}, 0, api.OK},

		{"a small letter", "c", nil, 0, api.ErrPattern},
		{"a letter of another alphabet", "A", nil, 0, api.ErrPattern},
		{"a blank", " ", nil, 0, api.ErrPattern},
		{"a blank behind", "C ", nil, 1, api.ErrPattern},
		{"a line's end", "C\n", nil, 1, api.ErrPattern},
		{"a zero", "\x00", nil, 0, api.ErrPattern},
		{"a byte that is no rune", "C\xff", nil, 1, api.ErrPattern},
		{"half a letter", "ÉÉ\xc3", nil, 4, api.ErrPattern},
		{"a letter's other half", "\x89", nil, 0, api.ErrPattern},
		{"Bad written out", "?\ufffd", nil, 1, api.ErrPattern},
		{"a sign of brackets outside", "C]", nil, 1, api.ErrPattern},
		{"a sign of brackets outside", "É,É", nil, 2, api.ErrPattern},
		{"a sign of brackets outside", "CH^H", nil, 2, api.ErrPattern},
		{"another mark", "C.", nil, 1, api.ErrPattern},
		{"places are bytes", "ÉÉÉ[É]?x", nil, 11, api.ErrPattern},

		{"brackets without an end", "[", nil, 0, api.ErrPattern},
		{"brackets without an end", "?[C", nil, 1, api.ErrPattern},
		{"brackets without an end", "?[C,", nil, 1, api.ErrPattern},
		{"brackets without an end", "É[^", nil, 2, api.ErrPattern},
		{"brackets without an end", "É[^C,H", nil, 2, api.ErrPattern},
		{"brackets without a letter", "C[]", nil, 1, api.ErrPattern},
		{"brackets without a letter", "C[^]", nil, 1, api.ErrPattern},
		{"brackets without a letter", "[,]", nil, 0, api.ErrPattern},
		{"a comma ahead", "[,C]", nil, 0, api.ErrPattern},
		{"a comma ahead", "[^,C]", nil, 0, api.ErrPattern},
		{"a comma behind", "[C,]", nil, 0, api.ErrPattern},
		{"two commas", "[C,,H]", nil, 0, api.ErrPattern},
		{"no comma", "[HC]", nil, 0, api.ErrPattern},
		{"no comma behind the longest letter", "[CHH]", nil, 0, api.ErrPattern},
		{"any letter in brackets", "[?]", nil, 0, api.ErrPattern},
		{"any letter in brackets", "[C,?]", nil, 0, api.ErrPattern},
		{"brackets in brackets", "[[C]]", nil, 0, api.ErrPattern},
		{"brackets in brackets", "[C,[H]]", nil, 0, api.ErrPattern},
		{"others twice", "[^^C]", nil, 0, api.ErrPattern},
		{"others that isn't first", "[C^]", nil, 0, api.ErrPattern},
		{"others that isn't first", "[C,^H]", nil, 0, api.ErrPattern},
		{"others ahead of the brackets", "^[C]", nil, 0, api.ErrPattern},
		{"a blank in brackets", "[C, H]", nil, 0, api.ErrPattern},
		{"a blank in brackets", "[ C]", nil, 0, api.ErrPattern},
		{"a blank in brackets", "[C ]", nil, 0, api.ErrPattern},
		{"a small letter in brackets", "[C,h]", nil, 0, api.ErrPattern},
		{"a byte that is no rune in brackets", "C[\xff]", nil, 1, api.ErrPattern},
		{"half a letter in brackets", "C[É\xc3]", nil, 1, api.ErrPattern},
		{"Bad written out in brackets", "[C,\ufffd]", nil, 0, api.ErrPattern},
		{"brackets that end twice", "[C]]", nil, 3, api.ErrPattern},

		{"the first fault counts", "C[H][x", nil, 4, api.ErrPattern},
		{"the first fault counts", "Cx[", nil, 1, api.ErrPattern},
		{"the first fault counts", "C[x\xff", nil, 1, api.ErrPattern},
		{"the first fault counts, past the limit", strings.Repeat("?", 31) + "[x]??", nil, 31, api.ErrPattern},
	} {
		p, at, e := pattern.Parse(r.a, x.text)
		if !slices.Equal(p, x.want) || at != x.at || e != x.e {
			t.Errorf("%s: Parse(%q) = %x, %d, %d, want %x, %d, %d", x.why, x.text, p, at, e, x.want, x.at, x.e)
		}
		r.compareParse(t, x.text)
	}
}

// P10.1: 32 elements are taken, and one more is not, whatever it is; what begins none is told ahead of their number.
func TestParseLong(t *testing.T) {
	r := rulesOf(t, "C", "H", "CH", "É")
	for _, element := range []string{"?", "C", "CH", "É", "[C]", "[^H]", "[C,É,H]", "[^C,H,CH,É]"} {
		full := strings.Repeat(element, 32)
		if p, at, e := pattern.Parse(r.a, full); len(p) != 32 || at != 0 || e != api.OK {
			t.Errorf("32 of %q: %x, %d, %d", element, p, at, e)
		}
		for _, x := range []struct {
			tail string
			e    api.Errno
		}{
			{"?", api.ErrLong}, {"É", api.ErrLong}, {"[É]", api.ErrLong}, {"[^CH]", api.ErrLong},
			{"?x", api.ErrLong}, {"??", api.ErrLong}, {"É\xff", api.ErrLong},
			// Brackets that are not as said begin all the same.
			{"[", api.ErrLong}, {"[]", api.ErrLong}, {"[x", api.ErrLong}, {"[C,", api.ErrLong},
			{"x", api.ErrPattern}, {"]", api.ErrPattern}, {"^", api.ErrPattern}, {",", api.ErrPattern},
			{"\xff", api.ErrPattern}, {"\ufffd", api.ErrPattern}, {" ", api.ErrPattern}, {"x?", api.ErrPattern},
		} {
			p, at, e := pattern.Parse(r.a, full+x.tail)
			if len(p) != 0 || at != len(full) || e != x.e {
				t.Errorf("32 of %q, then %q: %x, %d, %d, want %d", element, x.tail, p, at, e, x.e)
			}
			for n := 30; n <= 34; n++ {
				r.compareParse(t, strings.Repeat(element, n)+x.tail)
			}
		}
	}
	r.compareParse(t, strings.Repeat("CH", 1<<20))
}

// P10.1, P0: one element may be as long as it likes.
func TestLongBrackets(t *testing.T) {
	r := rulesOf(t, "A", "B", "AB", "É")
	for _, begin := range []string{"[", "B[^"} {
		long := begin + strings.Repeat("A,É,AB,", 30000)
		for _, end := range []string{"", "]", "B", "B]", "B]?", "B]x", "B,B", "\xff]"} {
			r.compareParse(t, long+end)
		}
		if p, at, e := pattern.Parse(r.a, long+"É]"); e != api.OK || at != 0 || p[len(p)-1] != r.maskOf(begin[len(begin)/2:]+"A,AB,É]") {
			t.Error("long brackets", p, at, e)
		}
	}
}

// P10.1, P10.2, P0: every text of a few of these pieces, which do all that a text can do.
func TestAllShortTexts(t *testing.T) {
	signs := []string{"?", "[", "]", ",", "^"}
	for _, x := range []struct {
		rules  rules
		most   int
		pieces []string
	}{
		{rulesOf(t, "A", "B", "AB"), 6, []string{"A", "B"}},
		{rulesOf(t, "A"), 6, []string{"A"}},
		{rulesOf(t, "É", "AÉ"), 4, []string{"A", "\xc3", "\x89", "\xff", "x", " ", "\n", "\x00"}},
		{rulesOf(t), 4, []string{"A", "\xff"}},
	} {
		texts := []string{""}
		for range x.most {
			var longer []string
			for _, text := range texts {
				for _, piece := range append(slices.Clone(signs), x.pieces...) {
					longer = append(longer, text+piece)
				}
			}
			for _, text := range longer {
				x.rules.compareParse(t, text)
			}
			texts = longer
		}
	}
}

// P10.1: every rune, and every byte, wherever one may stand.
func TestEveryRune(t *testing.T) {
	r := rulesOf(t, "A", "É", "Я", "AЯ")
	var pieces []string
	for b := range 256 {
		pieces = append(pieces, string([]byte{byte(b)}))
	}
	for c := range rune(0x2100) {
		pieces = append(pieces, string(c))
	}
	pieces = append(pieces, "\u201a", "\u3001", "\uff0c", "\uff1f", "\uff3b", "\uff3d", "\uff3e", "\uff21", "\U0001f600", "\U0010ffff", "\xed\xa0\x80", "\xf4\x90\x80\x80", "\xc1\x81")
	for _, piece := range pieces {
		for _, frame := range []string{"@", "A@", "@A", "[@]", "[^@]", "[A@]", "[A@É]", "[A,@]", "[@A]", "@A]", "[A@", "[A]@"} {
			r.compareParse(t, strings.ReplaceAll(frame, "@", piece))
		}
	}
}

// written is a text of some elements, with letters in any order, and some twice.
func (r rules) written(l *lots, n int) string {
	var text strings.Builder
	for range n {
		switch l.below(4) {
		case 0:
			text.WriteString("?")
		case 1:
			text.WriteString(of(l, r.names...))
		default:
			text.WriteString(of(l, "[", "[^") + of(l, r.names...))
			for range l.below(of(l, 3, len(r.names)+2)) {
				text.WriteString("," + of(l, r.names...))
			}
			text.WriteString("]")
		}
	}
	return text.String()
}

// P10.1, P10.2: texts by lot, and with a fault or two in them.
func TestTextsByLot(t *testing.T) {
	l := lots(10)
	for _, r := range allRules(t) {
		for range 300 {
			text := r.written(&l, l.below(of(&l, 4, 12, 32, 35)))
			r.compareParse(t, text)
			for range 1 + l.below(2) {
				from := l.below(len(text) + 1)
				to := min(len(text), from+l.below(3))
				text = text[:from] + of(&l, "", "", "[", "]", ",", "^", "?", "x", "\xff", of(&l, r.names...)) + text[to:]
			}
			r.compareParse(t, text)
		}
	}
}

// P10.1, P10.2: every mask of the lesser alphabets, alone and beside every other one's text.
func TestPrintEveryMask(t *testing.T) {
	for _, r := range allRules(t) {
		if len(r.names) > 6 {
			continue
		}
		r.comparePrint(t, nil)
		for m := range uint64(1 << len(r.names)) {
			r.comparePrint(t, []uint64{m})
			for n := range uint64(1 << len(r.names)) {
				r.comparePrint(t, []uint64{m, n})
			}
		}
	}
}

// P10.1: how masks are written, by hand, at the half of all letters and with letters of more runes.
func TestPrint(t *testing.T) {
	for _, x := range []struct {
		names []string
		p     []uint64
		text  string
	}{
		{[]string{"A"}, nil, ""},
		{[]string{"A"}, []uint64{1, 0}, "?[^A]"},
		{[]string{"AB"}, []uint64{1, 0}, "?[^AB]"},
		{[]string{"B", "A"}, []uint64{1, 2, 3, 0}, "BA?[^B,A]"},
		{[]string{"A", "AB"}, []uint64{1, 2, 3, 0}, "[A][AB]?[^A,AB]"},
		{[]string{"C", "A", "B"}, []uint64{1, 3, 5, 6, 7, 0}, "C[^B][^A][^C]?[^C,A,B]"},
		{[]string{"C", "A", "BÉ"}, []uint64{1, 3, 4, 7, 0}, "[C][^BÉ][BÉ]?[^C,A,BÉ]"},
		{[]string{"É", "Я", "A", "B"}, []uint64{1, 2, 3, 9, 12, 11, 14}, "ÉЯ[É,Я][É,B][A,B][^A][^É]"},
		{[]string{"A", "B", "C", "D", "E"}, []uint64{3, 7, 28, 24}, "[A,B][^D,E][^A,B][D,E]"},
		{[]string{"A", "B", "C", "D", "E", "F"}, []uint64{7, 56, 15, 21, 42, 43}, "[A,B,C][D,E,F][^E,F][A,C,E][B,D,F][^C,E]"},
		{forty(), []uint64{1 << 39, 1<<40 - 1, 1<<40 - 2, 1<<39 - 1, 1 | 1<<39}, "Н?[^A][^Н][A,Н]"},
	} {
		r := rulesOf(t, x.names...)
		text, at, e := pattern.Print(r.a, x.p)
		if text != x.text || at != 0 || e != api.OK {
			t.Errorf("%q: Print(%x) = %q, %d, %d, want %q", x.names, x.p, text, at, e, x.text)
		}
		r.comparePrint(t, x.p)
	}
}

// P10.1: patterns that can't be written, and where several errors apply.
func TestPrintRefuses(t *testing.T) {
	r := rulesOf(t, "A", "B", "CH")
	with := func(n, at int, m uint64) []uint64 {
		p := make([]uint64, n)
		p[at] = m
		return p
	}
	for _, x := range []struct {
		why string
		p   []uint64
		at  int
		e   api.Errno
	}{
		{"a number past the last letter's", []uint64{8}, 0, api.ErrPattern},
		{"a number past the last letter's, beside all letters", []uint64{1, 15}, 1, api.ErrPattern},
		{"the greatest number", []uint64{1, 0, 1 << 63}, 2, api.ErrPattern},
		{"all numbers", []uint64{7, math.MaxUint64}, 1, api.ErrPattern},
		{"the first one counts", []uint64{7, 8, 3, 1 << 40}, 1, api.ErrPattern},
		{"the last of 32", with(32, 31, 8), 31, api.ErrPattern},

		{"33 elements", make([]uint64, 33), 32, api.ErrLong},
		{"34 elements", make([]uint64, 34), 32, api.ErrLong},
		{"many elements", make([]uint64, 70000), 32, api.ErrLong},
		{"ErrPattern ahead of ErrLong: the first of 33", with(33, 0, 8), 0, api.ErrPattern},
		{"ErrPattern ahead of ErrLong: the last of 33", with(33, 32, 8), 32, api.ErrPattern},
		{"ErrPattern ahead of ErrLong, far past the limit", with(70000, 69999, 8), 69999, api.ErrPattern},
	} {
		text, at, e := pattern.Print(r.a, x.p)
		if text != "" || at != x.at || e != x.e {
			t.Errorf("%s: %q, %d, %d, want %d, %d", x.why, text, at, e, x.at, x.e)
		}
		r.comparePrint(t, x.p)
	}
	r.comparePrint(t, make([]uint64, 32))
}

// P10.1, P10.2, P0: any lists of masks, of the greatest alphabets too.
func TestPatternsByLot(t *testing.T) {
	l := lots(102)
	for _, r := range allRules(t) {
		all := mask.Full(len(r.names))
		for range 300 {
			p := make([]uint64, l.below(of(&l, 3, 12, 33, 36)))
			for i := range p {
				p[i] = of(&l, l.word(), l.word()&l.word()&l.word(), 1<<l.below(64), ^(uint64(1)<<l.below(64)), of(&l, masks...)) & all
			}
			r.comparePrint(t, p)
			if len(p) > 0 && l.below(3) == 0 {
				p[l.below(len(p))] |= of(&l, all+1, 1<<63, l.word(), of(&l, masks...))
				r.comparePrint(t, p)
			}
		}
	}
}

// P10.1: just the letters that are half of all, and one more, at each size of an alphabet.
func TestHalfOfAll(t *testing.T) {
	long := append([]string{"ЯЯ"}, forty()[:39]...)
	for n := 1; n <= 40; n++ {
		for _, names := range [][]string{forty()[:n], long[:n]} {
			r := rulesOf(t, names...)
			for k := range n + 1 {
				first := mask.Full(k)
				r.comparePrint(t, []uint64{first, mask.Full(n) &^ first, first << (n - k)})
			}
		}
	}
}

// P10.1, P0: a nil alphabet has no letter: any letter is none, and a pattern with an element can't be written.
func TestNilAlphabet(t *testing.T) {
	r := rulesOf(t)
	for _, text := range []string{"", "?", "A", "[A]", "[]", "[^]", "[^A]", "[", "^", "\xff", strings.Repeat("?", 32), strings.Repeat("?", 33), strings.Repeat("?", 32) + "A"} {
		r.compareParse(t, text)
	}
	if p, at, e := pattern.Parse(nil, "??"); !slices.Equal(p, []uint64{0, 0}) || at != 0 || e != api.OK {
		t.Error("Parse", p, at, e)
	}
	for _, p := range [][]uint64{nil, {}, {0}, {1}, {0, 0, 1}, {math.MaxUint64}, make([]uint64, 32), make([]uint64, 33), make([]uint64, 70000)} {
		text, at, e := pattern.Print(nil, p)
		want := api.ErrPattern
		if len(p) == 0 {
			want = api.OK
		}
		if text != "" || at != 0 || e != want {
			t.Errorf("Print of %d elements: %q, %d, %d", len(p), text, at, e)
		}
	}
}

// P10.1, P10.3: each number in each mask, and lists of other lengths.
func TestMatch(t *testing.T) {
	for _, m := range append(slices.Clone(masks), 7, 9, 1<<5|1<<63) {
		for _, k := range numbers {
			want := slices.Contains(mask.List(m), k)
			all := uint64(math.MaxUint64)
			if pattern.Match([]uint64{m}, []int{k}) != want || pattern.Match([]uint64{all, m}, []int{63, k}) != want || pattern.Match([]uint64{m, all, all}, []int{k, 0, 5}) != want {
				t.Errorf("%d in %x: %v", k, m, !want)
			}
		}
	}
	for _, x := range []struct {
		why   string
		p     []uint64
		cells []int
		want  bool
	}{
		{"no cell", nil, nil, true},
		{"no cell", []uint64{}, nil, true},
		{"no cell", nil, []int{}, true},
		{"a cell less", []uint64{1, 1}, []int{0}, false},
		{"a cell more", []uint64{1}, []int{0, 0}, false},
		{"no cell, one element", []uint64{math.MaxUint64}, nil, false},
		{"no element, one cell", nil, []int{0}, false},
		{"the first cell", []uint64{2, 1, 1}, []int{0, 0, 0}, false},
		{"the last cell", []uint64{1, 1, 2}, []int{0, 0, 0}, false},
		{"the midst", []uint64{1, 0, 1}, []int{0, 0, 0}, false},
		{"each in its own mask", []uint64{1, 2, 4}, []int{0, 1, 2}, true},
		{"each in another's mask", []uint64{1, 2, 4}, []int{2, 0, 1}, false},
		{"more than 32 cells", slices.Repeat([]uint64{2}, 70), slices.Repeat([]int{1}, 70), true},
		{"more than 32 cells, the last one", append(slices.Repeat([]uint64{2}, 70), 1), slices.Repeat([]int{1}, 71), false},
	} {
		if pattern.Match(x.p, x.cells) != x.want || wantMatch(x.p, x.cells) != x.want {
			t.Errorf("%s: Match(%x, %v) = %v", x.why, x.p, x.cells, !x.want)
		}
	}
}

// shortWords are all words of at most three cells, with numbers 0 to 2 and some that no mask has.
func shortWords() [][]int {
	words := [][]int{nil}
	for from := 0; len(words) < 200; {
		to := len(words)
		for _, word := range words[from:to] {
			for _, k := range []int{0, 1, 2, -1, 64, math.MaxInt} {
				words = append(words, append(slices.Clone(word), k))
			}
		}
		from = to
	}
	return words
}

// shortPatterns are all patterns of at most three cells, with masks of the numbers 0 to 2 (of three cells, not all).
func shortPatterns() [][]uint64 {
	list := [][]uint64{nil}
	for m := range uint64(8) {
		list = append(list, []uint64{m})
		for n := range uint64(8) {
			list = append(list, []uint64{m, n}, []uint64{m, n, 5}, []uint64{m, 3, n})
		}
	}
	return list
}

// P10.3: a word fits Meet just if it fits both: all short words, all short patterns.
func TestMeetEveryWord(t *testing.T) {
	words := shortWords()
	for _, p := range shortPatterns() {
		for _, q := range shortPatterns() {
			both, ok := pattern.Meet(p, q)
			if ok != (len(p) == len(q)) || !ok && len(both) != 0 {
				t.Fatalf("Meet(%x, %x) = %x, %v", p, q, both, ok)
			}
			for _, word := range words {
				if ok && pattern.Match(both, word) != (wantMatch(p, word) && wantMatch(q, word)) {
					t.Fatalf("Meet(%x, %x) = %x: %v", p, q, both, word)
				}
			}
		}
	}
}

// P10.1, P10.3: Meet of any masks has just the numbers that both have, in each cell, however many cells there are.
func TestMeet(t *testing.T) {
	for _, m := range masks {
		for _, n := range masks {
			both, ok := pattern.Meet([]uint64{m, n, m}, []uint64{n, n, 3})
			var want uint64
			for _, k := range mask.List(m) {
				if slices.Contains(mask.List(n), k) {
					want += 1 << k
				}
			}
			if !ok || len(both) != 3 || both[0] != want || both[1] != n || both[2] != m&3 {
				t.Errorf("Meet of %x and %x: %x, %v", m, n, both, ok)
			}
		}
	}
	for _, n := range []int{0, 1, 31, 32, 33, 1000} {
		p, q := slices.Repeat([]uint64{6}, n), slices.Repeat([]uint64{3}, n)
		if both, ok := pattern.Meet(p, q); !ok || !slices.Equal(both, slices.Repeat([]uint64{2}, n)) {
			t.Error("Meet of", n, both, ok)
		}
		if both, ok := pattern.Meet(p, append(q, 3)); ok || both != nil {
			t.Error("Meet of", n, "and one more", both, ok)
		}
		if both, ok := pattern.Meet(append(p, 6), q); ok || both != nil {
			t.Error("Meet of one more and", n, both, ok)
		}
	}
	if both, ok := pattern.Meet(nil, []uint64{}); !ok || len(both) != 0 {
		t.Error("Meet of nothing", both, ok)
	}
}

// lexiconOf is the one of these words.
func lexiconOf(t *testing.T, a *alpha.Alphabet, words []api.Word) *lexicon.Lexicon {
	t.Helper()
	x, at, e := lexicon.New(a, words)
	if e != api.OK {
		t.Fatal(at, e)
	}
	return x
}

// compareHits holds Hits against all words of the lexicon, one by one.
func compareHits(t *testing.T, x *lexicon.Lexicon, p []uint64) {
	t.Helper()
	var want []int
	for i := range x.Len() {
		fits := wantMatch(p, x.Word(i).Cells)
		if pattern.Match(p, x.Word(i).Cells) != fits {
			t.Fatalf("Match(%x, %v) = %v", p, x.Word(i).Cells, !fits)
		}
		if fits {
			want = append(want, i)
		}
	}
	if hits := pattern.Hits(x, p); !slices.Equal(hits, want) {
		t.Fatalf("Hits(%x) = %v, want %v", p, hits, want)
	}
}

// P10.3: hits by hand: of words of the pattern's length alone, with their numbers in the whole list.
func TestHits(t *testing.T) {
	r := rulesOf(t, "A", "B", "C", "H", "CH")
	x, _, _ := lexicon.Read(r.a, "CHAC\nAB\nCAB\nBAC\nA\nCHB\nBACA\nBA")
	// In order: A; AB, BA, CHB; BAC, CAB, CHAC; BACA.
	if x.Print() != "A;50\nAB;50\nBA;50\nCHB;50\nBAC;50\nCAB;50\nCHAC;50\nBACA;50\n" {
		t.Fatalf("%q", x.Print())
	}
	for _, y := range []struct {
		text string
		want []int
	}{
		{"", nil},
		{"?", []int{0}},
		{"B", nil},
		{"??", []int{1, 2, 3}},
		{"?B", []int{1, 3}},
		{"CHB", []int{3}},
		{"[C][H]B", nil},
		{"?[A,B]?", []int{4, 5, 6}},
		{"[^CH]A?", []int{4, 5}},
		{"?AC", []int{4, 6}},
		{"[C,CH]A?", []int{5, 6}},
		{"????", []int{7}},
		{"?????", nil},
		{"[^A,B,C,H,CH]?", nil},
	} {
		p, _, e := pattern.Parse(r.a, y.text)
		if e != api.OK {
			t.Fatal(y.text, e)
		}
		if hits := pattern.Hits(x, p); !slices.Equal(hits, y.want) {
			t.Errorf("Hits of %q: %v, want %v", y.text, hits, y.want)
		}
		compareHits(t, x, p)
	}
}

// P10.3: hits of words by lot, with patterns that some of them fit, and with patterns that meet.
func TestHitsByLot(t *testing.T) {
	l := lots(103)
	for _, r := range allRules(t) {
		var words []api.Word
		for range 200 {
			cells := make([]int, 1+l.below(of(&l, 2, 3, 5, 32)))
			for i := range cells {
				cells[i] = l.below(of(&l, len(r.names), min(3, len(r.names))))
			}
			words = append(words, api.Word{Cells: cells, Score: l.below(101)})
		}
		x := lexiconOf(t, r.a, words)
		for range 150 {
			p, q := about(&l, of(&l, words...).Cells), about(&l, of(&l, words...).Cells)
			compareHits(t, x, p)
			both, ok := pattern.Meet(p, q)
			if !ok {
				continue
			}
			compareHits(t, x, both)
			inBoth := slices.DeleteFunc(pattern.Hits(x, p), func(i int) bool { return !slices.Contains(pattern.Hits(x, q), i) })
			if !slices.Equal(pattern.Hits(x, both), inBoth) {
				t.Fatalf("Hits of Meet(%x, %x) = %v, want %v", p, q, pattern.Hits(x, both), inBoth)
			}
		}
	}
}

// about is a pattern that the word mostly fits.
func about(l *lots, cells []int) []uint64 {
	p := make([]uint64, len(cells))
	for i, k := range cells {
		p[i] = of(l, math.MaxUint64, mask.Of(k), mask.Of(k)|l.word(), l.word()|l.word())
	}
	return p
}

// P10.1, P0: a nil lexicon has no word, and one of no word none that fits; patterns may be of any length.
func TestNoHits(t *testing.T) {
	r := rulesOf(t, "A", "B")
	empty := lexiconOf(t, r.a, nil)
	full := lexiconOf(t, r.a, []api.Word{{Cells: []int{0}}, {Cells: make([]int, 32)}})
	for _, n := range []int{0, 1, 2, 31, 32, 33, 64, 70000} {
		p := slices.Repeat([]uint64{math.MaxUint64}, n)
		for _, x := range []*lexicon.Lexicon{nil, empty} {
			if hits := pattern.Hits(x, p); len(hits) != 0 {
				t.Error("Hits of no word", n, hits)
			}
		}
		compareHits(t, full, p)
	}
	if hits := pattern.Hits(full, nil); len(hits) != 0 {
		t.Error("Hits of no cell", hits)
	}
}

// P0: objects that no call has made are asked too, and nothing panics.
func TestObjectsOfNoCall(t *testing.T) {
	for _, text := range []string{"", "?", "A", "[A]", "[^A]", "[", "\xff"} {
		pattern.Parse(&alpha.Alphabet{}, text)
	}
	for _, m := range masks {
		pattern.Print(&alpha.Alphabet{}, []uint64{m})
		pattern.Hits(&lexicon.Lexicon{}, []uint64{m})
	}
}

// roomy has the same items, and room behind them that is written over.
func roomy[T any](list []T, behind T) []T {
	return append(slices.Clone(list), behind, behind, behind)[:len(list)]
}

// isKept tells whether the list has these items still, and what stood behind it.
func isKept[T comparable](list, want []T, behind T) bool {
	return slices.Equal(list, want) && slices.Equal(list[len(list):len(list)+3], []T{behind, behind, behind})
}

// spoil writes over a list and the room behind it.
func spoil[T any](list []T, with T) {
	list = list[:cap(list)]
	for i := range list {
		list[i] = with
	}
}

// P10.4: lists that are handed in stay as they are, the room behind them too, and are not kept.
func TestHandedIn(t *testing.T) {
	r := rulesOf(t, "A", "B", "C")
	x := lexiconOf(t, r.a, []api.Word{{Cells: []int{0, 1}}, {Cells: []int{0, 2}}, {Cells: []int{1, 1}}})
	p, q, cells := []uint64{3, 6}, []uint64{1, 7}, []int{0, 2}
	givenP, givenQ, givenCells := roomy(p, 99), roomy(q, 98), roomy(cells, -7)

	text, _, _ := pattern.Print(r.a, givenP)
	fits := pattern.Match(givenP, givenCells)
	hits := pattern.Hits(x, givenP)
	both, _ := pattern.Meet(givenP, givenQ)
	if !isKept(givenP, p, 99) || !isKept(givenQ, q, 98) || !isKept(givenCells, cells, -7) {
		t.Fatal("what was handed in has changed", givenP, givenQ, givenCells)
	}
	spoil(givenP, 77)
	spoil(givenQ, 77)
	spoil(givenCells, 77)
	if text != "[^C][^A]" || !fits || !slices.Equal(hits, []int{0, 1, 2}) || !slices.Equal(both, []uint64{1, 6}) {
		t.Error("what was answered has changed", text, fits, hits, both)
	}
	refused := roomy([]uint64{1, 8}, 97)
	pattern.Print(r.a, refused)
	pattern.Meet(refused, givenP[:1])
	if !isKept(refused, []uint64{1, 8}, 97) {
		t.Error("a refused list has changed", refused)
	}
	same := roomy(p, 96)
	both, _ = pattern.Meet(same, same)
	spoil(both, 77)
	if !isKept(same, p, 96) {
		t.Error("Meet of a list with itself has changed it", same)
	}
}

// P10.4: lists that are answered are new memory, each with room of its own.
func TestAnswersAreNew(t *testing.T) {
	r := rulesOf(t, "A", "B", "C")
	x := lexiconOf(t, r.a, []api.Word{{Cells: []int{0, 1}}, {Cells: []int{0, 2}}, {Cells: []int{1, 1}}})
	p, q := []uint64{3, 6}, []uint64{1, 7}
	for range 3 {
		parsed, _, _ := pattern.Parse(r.a, "?[A,B]C")
		others, _, _ := pattern.Parse(r.a, "?[A,B]C")
		spoil(parsed, 77)
		if !slices.Equal(others, []uint64{7, 3, 4}) {
			t.Fatal("two answers of Parse share memory", others)
		}
		hits, more := pattern.Hits(x, p), pattern.Hits(x, p)
		spoil(hits, 77)
		if !slices.Equal(more, []int{0, 1, 2}) || x.Print() != "AB;0\nAC;0\nBB;0\n" {
			t.Fatal("two answers of Hits share memory", more)
		}
		both, _ := pattern.Meet(p, q)
		again, _ := pattern.Meet(p, q)
		spoil(both, 77)
		if !slices.Equal(again, []uint64{1, 6}) || !slices.Equal(p, []uint64{3, 6}) || !slices.Equal(q, []uint64{1, 7}) {
			t.Fatal("two answers of Meet share memory", again, p, q)
		}
	}
}

// One answer: alphabets never meet, and a refused text leaves nothing behind.
func TestTwoAlphabets(t *testing.T) {
	r, s := rulesOf(t, "A", "B", "AB"), rulesOf(t, "B", "A")
	for range 2 {
		for _, text := range []string{"AB", "A[B", "[A,B]", "AB\xff", "[^AB]", "?", strings.Repeat("A", 33)} {
			r.compareParse(t, text)
			s.compareParse(t, text)
		}
		for _, p := range [][]uint64{{1}, {4}, {3, 2}, make([]uint64, 33)} {
			r.comparePrint(t, p)
			s.comparePrint(t, p)
		}
	}
}
