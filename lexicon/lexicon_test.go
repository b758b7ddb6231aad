package lexicon_test

import (
	"maps"
	"math"
	"regexp"
	"slices"
	"strconv"
	"strings"
	"testing"

	"rebus/alpha"
	"rebus/api"
	"rebus/fold"
	"rebus/lexicon"
	"rebus/mask"
	"rebus/utf"
)

// numbers are ints that may be asked for, about each limit and at the ends of all ints.
var numbers = []int{math.MinInt, math.MinInt + 1, -1 << 32, -256, -33, -32, -2, -1, 0, 1, 2, 3, 4, 5, 6, 7, 8, 31, 32, 33, 34, 39, 40, 41, 63, 64, 65, 255, 256, 257, 999, 1000, 1001, 1 << 32, 1<<32 + 1, math.MaxInt - 1, math.MaxInt}

// blanks are all of layer 2's blanks that end no line.
var blanks = []string{"\t", "\v", "\f", "\r", " ", "\u00a0"}

// alphabet is the one of these letters.
func alphabet(t *testing.T, letters ...string) *alpha.Alphabet {
	t.Helper()
	a, at, e := alpha.New(letters)
	if e != api.OK {
		t.Fatalf("%q: %d, %d", letters, at, e)
	}
	return a
}

// forty is the greatest alphabet of letters of one rune.
func forty(t *testing.T) *alpha.Alphabet {
	t.Helper()
	var letters []string
	for r := rune('A'); r <= 'Z'; r++ {
		letters = append(letters, string(r))
	}
	for r := rune(0x410); len(letters) < 40; r++ {
		letters = append(letters, string(r))
	}
	return alphabet(t, letters...)
}

// lots draws numbers that are the same in every run.
type lots uint64

func (l *lots) below(n int) int {
	*l = *l*6364136223846793005 + 1442695040888963407
	return int(uint64(*l) >> 33 % uint64(n))
}

// of draws one of the list.
func of[T any](l *lots, list ...T) T {
	return list[l.below(len(list))]
}

// shuffle lays the list in another order.
func shuffle[T any](l *lots, list []T) {
	for i := len(list) - 1; i > 0; i-- {
		k := l.below(i + 1)
		list[i], list[k] = list[k], list[i]
	}
}

// put lays a word where it belongs among the others, or raises the score of the one that is there.
func put(list []api.Word, word api.Word) []api.Word {
	at := 0
	for at < len(list) && stands(list[at].Cells, word.Cells) {
		at++
	}
	if at < len(list) && slices.Equal(list[at].Cells, word.Cells) {
		if list[at].Score < word.Score {
			list[at].Score = word.Score
		}
		return list
	}
	return slices.Insert(list, at, api.Word{Cells: slices.Clone(word.Cells), Score: word.Score})
}

// stands tells whether p stands ahead of q.
func stands(p, q []int) bool {
	if len(p) != len(q) {
		return len(p) < len(q)
	}
	for i := range p {
		if p[i] != q[i] {
			return p[i] < q[i]
		}
	}
	return false
}

// wantNew is the chapter's New.
func wantNew(size int, words []api.Word) ([]api.Word, int, api.Errno) {
	if len(words) > 1000 {
		return nil, 0, 111
	}
	var list []api.Word
	for i, word := range words {
		wrong := len(word.Cells) == 0 || len(word.Cells) > 32
		for _, letter := range word.Cells {
			wrong = wrong || letter < 0 || letter > size-1
		}
		if wrong {
			return nil, i, 35
		}
		if word.Score < 0 || word.Score > 100 {
			return nil, i, 91
		}
		list = put(list, word)
	}
	return list, 0, 0
}

// The chapter's lines in expressions.
var (
	silent = regexp.MustCompile("^[\t-\r \u00a0]*(#.*)?$")
	split  = regexp.MustCompile("^([^;]*)(?:;(.*))?$")
	score  = regexp.MustCompile("^[\t-\r \u00a0]*(0?[0-9]?[0-9]|100)[\t-\r \u00a0]*$")
)

// wantRead is the chapter's Read.
func wantRead(a *alpha.Alphabet, text string) ([]api.Word, []api.Refused, api.Errno) {
	if len(text) > 65536 {
		return nil, nil, 1
	}
	var list []api.Word
	var refused []api.Refused
	for i, line := range utf.Lines(text) {
		word, e := wantLine(a, list, line)
		if e != 0 {
			refused = append(refused, api.Refused{Line: i, Err: e})
		} else if len(word.Cells) > 0 {
			list = put(list, word)
		}
	}
	return list, refused, 0
}

// wantLine is the word that a line says, if it says one, or why it is refused.
func wantLine(a *alpha.Alphabet, list []api.Word, line string) (api.Word, api.Errno) {
	if silent.MatchString(line) {
		return api.Word{}, 0
	}
	parts := split.FindStringSubmatch(line)
	written, scored := parts[1], parts[2]
	if len(written) == len(line) {
		scored = "50"
	}
	folded := fold.Fold(written, false)
	if folded == "" {
		return api.Word{}, 90
	}
	digits := score.FindStringSubmatch(scored)
	if digits == nil {
		return api.Word{}, 91
	}
	cells, _, e := a.Split(folded)
	if e != 0 {
		return api.Word{}, e
	}
	isThere := slices.ContainsFunc(list, func(word api.Word) bool { return slices.Equal(word.Cells, cells) })
	if len(list) == 1000 && !isThere {
		return api.Word{}, 111
	}
	n, _ := strconv.Atoi(digits[1])
	return api.Word{Cells: cells, Score: n}, 0
}

// wordsOf are the lexicon's words, one by one.
func wordsOf(x *lexicon.Lexicon) []api.Word {
	var list []api.Word
	for i := range x.Len() {
		list = append(list, x.Word(i))
	}
	return list
}

// isSame tells whether the words are the same, with their scores, in their order.
func isSame(p, q []api.Word) bool {
	return slices.EqualFunc(p, q, func(a, b api.Word) bool {
		return a.Score == b.Score && slices.Equal(a.Cells, b.Cells)
	})
}

// clone shares no memory with the words.
func clone(words []api.Word) []api.Word {
	list := slices.Clone(words)
	for i := range list {
		list[i].Cells = slices.Clone(list[i].Cells)
	}
	return list
}

// compare holds all that the lexicon answers against the words that it should have.
func compare(t *testing.T, a *alpha.Alphabet, x *lexicon.Lexicon, want []api.Word) {
	t.Helper()
	if x.Len() != len(want) || !isSame(wordsOf(x), want) {
		t.Fatalf("%d words, %v, want %v", x.Len(), wordsOf(x), want)
	}
	text := ""
	for i, word := range want {
		joined, _ := a.Join(word.Cells)
		if x.Text(i) != joined {
			t.Fatalf("Text(%d) = %q, want %q", i, x.Text(i), joined)
		}
		text += joined + ";" + strconv.Itoa(word.Score) + "\n"
		if k, ok := x.Find(word.Cells); k != i || !ok {
			t.Fatalf("Find(%v) = %d, %v, want %d", word.Cells, k, ok, i)
		}
	}
	if x.Print() != text {
		t.Fatalf("Print = %q, want %q", x.Print(), text)
	}
	compareOutside(t, x, len(want))
	compareSpans(t, x, want)
}

// compareOutside holds numbers that are no word's against the zero values.
func compareOutside(t *testing.T, x *lexicon.Lexicon, size int) {
	t.Helper()
	for _, i := range append([]int{size, size + 1}, numbers...) {
		if i >= 0 && i < size {
			continue
		}
		if word := x.Word(i); len(word.Cells) != 0 || word.Score != 0 || x.Text(i) != "" {
			t.Fatalf("Word(%d) = %v, %q", i, word, x.Text(i))
		}
	}
}

// compareSpans holds Span and Letters of every length and place against the words.
func compareSpans(t *testing.T, x *lexicon.Lexicon, want []api.Word) {
	t.Helper()
	for _, n := range numbers {
		from, to := 0, 0
		letters := map[int]uint64{}
		for i, word := range want {
			if len(word.Cells) != n {
				continue
			}
			if to == 0 {
				from = i
			}
			to = i + 1
			for at, letter := range word.Cells {
				letters[at] |= mask.Of(letter)
			}
		}
		if first, behind := x.Span(n); first != from || behind != to {
			t.Fatalf("Span(%d) = %d, %d, want %d, %d", n, first, behind, from, to)
		}
		for _, at := range append([]int{n - 1, n, n + 1}, numbers...) {
			if x.Letters(n, at) != letters[at] {
				t.Fatalf("Letters(%d, %d) = %x, want %x", n, at, x.Letters(n, at), letters[at])
			}
		}
	}
}

// compareNew holds New of the words, and the lexicon, against what the chapter asks.
func compareNew(t *testing.T, a *alpha.Alphabet, words []api.Word) {
	t.Helper()
	x, at, e := lexicon.New(a, words)
	want, wantAt, wantE := wantNew(a.Size(), words)
	if at != wantAt || e != wantE || (x == nil) != (e != api.OK) {
		t.Fatalf("New(%v) = %v, %d, %d, want %d, %d", words, x, at, e, wantAt, wantE)
	}
	compare(t, a, x, want)
}

// compareRead holds Read of the text, the lexicon, and Read of its Print, against what the chapter asks.
func compareRead(t *testing.T, a *alpha.Alphabet, text string) {
	t.Helper()
	x, refused, e := lexicon.Read(a, text)
	want, wantRefused, wantE := wantRead(a, text)
	if e != wantE || (x == nil) != (e != api.OK) || !slices.Equal(refused, wantRefused) {
		t.Fatalf("Read(%.2000q) = %v, %d, want %v, %d", text, refused, e, wantRefused, wantE)
	}
	compare(t, a, x, want)
	if printed := x.Print(); e == api.OK && len(printed) <= api.MaxText {
		again, refused, e := lexicon.Read(a, printed)
		if !isSame(wordsOf(again), want) || len(refused) != 0 || e != api.OK {
			t.Fatalf("Read(%.2000q) = %v, %v, %d, want %v", printed, wordsOf(again), refused, e, want)
		}
	}
}

// P9.1: the chapter's examples.
func TestExamples(t *testing.T) {
	a := alphabet(t, "A", "B", "C", "D", "E")
	x, refused, e := lexicon.Read(a, "# none\nbead;60\nCAB\n cab ; 70 \nBÉD\nA;101\n;5\nbad")
	if e != api.OK || !slices.Equal(refused, []api.Refused{{Line: 4, Err: api.ErrCell}, {Line: 5, Err: api.ErrScore}, {Line: 6, Err: api.ErrForm}}) {
		t.Error(refused, e)
	}
	want := []api.Word{{Cells: []int{1, 0, 3}, Score: 50}, {Cells: []int{2, 0, 1}, Score: 70}, {Cells: []int{1, 4, 0, 3}, Score: 60}}
	compare(t, a, x, want)
	if from, to := x.Span(3); from != 0 || to != 2 {
		t.Error("Span", from, to)
	}
	if x.Letters(3, 1) != mask.Of(0) {
		t.Error("Letters", x.Letters(3, 1))
	}
	if x.Print() != "BAD;50\nCAB;70\nBEAD;60\n" {
		t.Errorf("Print %q", x.Print())
	}
}

// P9.1: lists that are refused, at the edges of each error, and where several errors apply.
func TestNewRefuses(t *testing.T) {
	right := api.Word{Cells: []int{0}, Score: 1}
	long := make([]int, 33)
	for _, x := range []struct {
		why   string
		words []api.Word
		at    int
		e     api.Errno
	}{
		{"no cell", []api.Word{{}}, 0, api.ErrNumber},
		{"no cell, behind a right one", []api.Word{right, {Cells: []int{}, Score: 7}}, 1, api.ErrNumber},
		{"33 cells", []api.Word{right, right, {Cells: long}}, 2, api.ErrNumber},
		{"many cells", []api.Word{{Cells: make([]int, 5000)}}, 0, api.ErrNumber},
		{"a number past the last letter's", []api.Word{right, {Cells: []int{1, 2}}}, 1, api.ErrNumber},
		{"a number below 0", []api.Word{{Cells: []int{-1}}}, 0, api.ErrNumber},
		{"a number that is a letter's but for 256 more", []api.Word{{Cells: []int{256}}}, 0, api.ErrNumber},
		{"the last number", []api.Word{{Cells: append(make([]int, 31), 2)}}, 0, api.ErrNumber},
		{"the least int", []api.Word{{Cells: []int{0, math.MinInt}}}, 0, api.ErrNumber},
		{"the greatest int", []api.Word{{Cells: []int{0, math.MaxInt}}}, 0, api.ErrNumber},
		{"a score below 0", []api.Word{right, {Cells: []int{1}, Score: -1}}, 1, api.ErrScore},
		{"a score above 100", []api.Word{right, {Cells: []int{1}, Score: 101}}, 1, api.ErrScore},
		{"the least score", []api.Word{{Cells: []int{1}, Score: math.MinInt}}, 0, api.ErrScore},
		{"the greatest score", []api.Word{{Cells: []int{1}, Score: math.MaxInt}}, 0, api.ErrScore},
		{"a word that was there, with a wrong score", []api.Word{right, right, {Cells: []int{0}, Score: 101}}, 2, api.ErrScore},

		{"ErrNumber ahead of ErrScore: no cell", []api.Word{{Score: 101}}, 0, api.ErrNumber},
		{"ErrNumber ahead of ErrScore: 33 cells", []api.Word{{Cells: long, Score: -1}}, 0, api.ErrNumber},
		{"ErrNumber ahead of ErrScore: the last number", []api.Word{{Cells: []int{0, 2}, Score: 101}}, 0, api.ErrNumber},
		{"the first wrong word counts", []api.Word{right, {Cells: []int{1}, Score: 101}, {}}, 1, api.ErrScore},
		{"the first wrong word counts", []api.Word{right, {Cells: long}, {Cells: []int{1}, Score: 101}}, 1, api.ErrNumber},

		{"1001 words, all the same", slices.Repeat([]api.Word{right}, 1001), 0, api.ErrWords},
		{"1001 words, all wrong", make([]api.Word, 1001), 0, api.ErrWords},
		{"1000 words, the last one wrong", append(slices.Repeat([]api.Word{right}, 999), api.Word{}), 999, api.ErrNumber},
		{"many words", slices.Repeat([]api.Word{right}, 70000), 0, api.ErrWords},
	} {
		a := alphabet(t, "A", "B")
		list, at, e := lexicon.New(a, x.words)
		if list != nil || at != x.at || e != x.e {
			t.Errorf("%s: %v, %d, %d, want %d, %d", x.why, list, at, e, x.at, x.e)
		}
		compareNew(t, a, x.words)
	}
}

// P9.1, P9.2: lists that are taken, about each limit.
func TestNewTakes(t *testing.T) {
	a := alphabet(t, "C", "H", "CH", "É")
	for _, words := range [][]api.Word{
		nil,
		{},
		{{Cells: []int{3}}},
		{{Cells: []int{0}, Score: 100}, {Cells: []int{0}, Score: 99}, {Cells: []int{0}, Score: 0}},
		{{Cells: []int{0}, Score: 0}, {Cells: []int{0}, Score: 7}, {Cells: []int{0}, Score: 3}},
		{{Cells: []int{0, 1}, Score: 5}, {Cells: []int{2}, Score: 6}},
		{{Cells: []int{0, 1, 0}, Score: 5}, {Cells: []int{2, 0}, Score: 6}, {Cells: []int{0, 1}, Score: 7}, {Cells: []int{2}, Score: 8}},
		{{Cells: make([]int, 32), Score: 1}, {Cells: make([]int, 31), Score: 2}, {Cells: append(make([]int, 31), 3), Score: 3}},
		{{Cells: []int{3, 0}}, {Cells: []int{0, 3}}, {Cells: []int{2}}, {Cells: []int{0, 0, 0}}},
		slices.Repeat([]api.Word{{Cells: []int{1}, Score: 4}}, 1000),
	} {
		compareNew(t, a, words)
	}
	x, _, _ := lexicon.New(a, nil)
	if x == nil {
		t.Error("a lexicon of no word is none")
	}
}

// P9.1: two words that are written alike are two words, and each is found.
func TestWordsWrittenAlike(t *testing.T) {
	a := alphabet(t, "C", "H", "CH")
	x, _, _ := lexicon.New(a, []api.Word{{Cells: []int{0, 1}, Score: 5}, {Cells: []int{2}, Score: 6}})
	if x.Print() != "CH;6\nCH;5\n" || x.Len() != 2 {
		t.Errorf("%q", x.Print())
	}
	if i, ok := x.Find([]int{0, 1}); i != 1 || !ok {
		t.Error("Find", i, ok)
	}
	if i, ok := x.Find([]int{2}); i != 0 || !ok {
		t.Error("Find", i, ok)
	}
}

// P9.1: words that aren't there are not found.
func TestFindNone(t *testing.T) {
	a := alphabet(t, "A", "B", "C")
	x, _, _ := lexicon.New(a, []api.Word{{Cells: []int{1}}, {Cells: []int{0, 1}}, {Cells: []int{1, 1}}, {Cells: []int{1, 2, 0}}})
	lists := [][]int{nil, {}, make([]int, 32), make([]int, 33), make([]int, 5000), {1, 256}, {257}, {1, 2, 0, 0}, {1, 2, 256}}
	for _, n := range numbers {
		if n != 1 {
			lists = append(lists, []int{n}, []int{n, 1, 1}, []int{1, 2, n + 1})
		}
		if n != 0 && n != 1 {
			lists = append(lists, []int{n, 1}, []int{1, n, 0}[:2], []int{0, n})
		}
	}
	for _, cells := range lists {
		if slices.Equal(cells, []int{1, 2, 0}) {
			continue
		}
		if i, ok := x.Find(cells); i != 0 || ok {
			t.Errorf("Find(%v) = %d, %v", cells, i, ok)
		}
	}
	empty, _, _ := lexicon.New(a, nil)
	for _, cells := range [][]int{nil, {0}, {1, 1}} {
		if i, ok := empty.Find(cells); i != 0 || ok {
			t.Errorf("Find(%v) of no words = %d, %v", cells, i, ok)
		}
	}
}

// P9.1: a nil lexicon has no word, and nothing is asked of it in vain.
func TestNil(t *testing.T) {
	var x *lexicon.Lexicon
	compare(t, nil, x, nil)
	for _, cells := range [][]int{nil, {0}, {-1}, make([]int, 33)} {
		if i, ok := x.Find(cells); i != 0 || ok {
			t.Errorf("Find(%v) = %d, %v", cells, i, ok)
		}
	}
}

// P9.1: a nil alphabet has no letter: there is the lexicon of no words, and no other.
func TestNilAlphabet(t *testing.T) {
	compareNew(t, nil, nil)
	compareNew(t, nil, []api.Word{{Cells: []int{0}}})
	compareNew(t, nil, []api.Word{{Cells: []int{0}, Score: 101}})
	compareNew(t, nil, make([]api.Word, 1001))
	for _, text := range []string{"", "\n#\n", "A", "A;1\n;\nB;x\n#"} {
		compareRead(t, nil, text)
	}
}

// P9.1: what each line says, or why it is refused.
func TestLines(t *testing.T) {
	a := alphabet(t, "A", "B", "C", "H", "CH", "É", "Я")
	const line32 = "ABABABABABABABABABABABABABABABAB"
	for _, x := range []struct {
		why, line, print string
		e                api.Errno
	}{
		{"nothing", "", "", api.OK},
		{"blanks alone", " \t\v\f\r\u00a0", "", api.OK},
		{"a remark", "#", "", api.OK},
		{"a remark behind blanks", " \t\u00a0#A;50", "", api.OK},
		{"a remark of any bytes", "#\xff;;", "", api.OK},
		{"a sign that isn't first", "A#B", "AB;50\n", api.OK},
		{"a sign that isn't first", ";#", "", api.ErrForm},
		{"a byte ahead of the sign", "\xff#A", "A;50\n", api.OK},

		{"one letter", "A", "A;50\n", api.OK},
		{"letters of two runes and two bytes", "chéя", "CHÉЯ;50\n", api.OK},
		{"what is no letter is let go", " a-b.c 1\xff\u0301\u00a0", "ABC;50\n", api.OK},
		{"32 letters", line32, line32 + ";50\n", api.OK},
		{"32 letters of two runes", strings.Repeat("CH", 32) + ";1", strings.Repeat("CH", 32) + ";1\n", api.OK},
		{"33 letters", line32 + "A", "", api.ErrLong},
		{"33 letters, the last one of two runes", line32 + "CH", "", api.ErrLong},
		{"many letters", strings.Repeat("A", 9000), "", api.ErrLong},
		{"a letter that is none of the alphabet", "ABX", "", api.ErrCell},
		{"an accent that the alphabet hasn't", "ÀB", "", api.ErrCell},
		{"a letter that is none, past the limit", line32 + "X", "", api.ErrLong},
		{"a letter that is none, ahead of the limit", "X" + line32, "", api.ErrCell},

		{"no word", ";50", "", api.ErrForm},
		{"no word, no score", ";", "", api.ErrForm},
		{"no letter", "1 2 \u0301", "", api.ErrForm},
		{"a byte that is no rune", "\xff", "", api.ErrForm},
		{"Bad written out", "\ufffd;1", "", api.ErrForm},
		{"half a letter", "\xc3;1", "", api.ErrForm},
		{"a blank's second byte alone", "\xa0", "", api.ErrForm},
		{"letters behind the separator alone", " ;A", "", api.ErrForm},

		{"a score of one digit", "A;0", "A;0\n", api.OK},
		{"of two", "A;10", "A;10\n", api.OK},
		{"of three", "A;100", "A;100\n", api.OK},
		{"with zeros ahead", "A;007", "A;7\n", api.OK},
		{"of zeros", "A;000", "A;0\n", api.OK},
		{"99", "A;099", "A;99\n", api.OK},
		{"blanks at both ends", "A;\u00a0\t1\u00a0\v \r", "A;1\n", api.OK},
		{"101", "A;101", "", api.ErrScore},
		{"999", "A;999", "", api.ErrScore},
		{"four digits", "A;0001", "", api.ErrScore},
		{"four digits", "A;1000", "", api.ErrScore},
		{"so many that a sum wraps", "A;18446744073709551617", "", api.ErrScore},
		{"no digit", "A;", "", api.ErrScore},
		{"blanks alone", "A; \u00a0", "", api.ErrScore},
		{"a blank within", "A;1 0", "", api.ErrScore},
		{"a sign", "A;+1", "", api.ErrScore},
		{"a sign", "A;-1", "", api.ErrScore},
		{"a letter", "A;1A", "", api.ErrScore},
		{"another kind of number", "A;0x1", "", api.ErrScore},
		{"another kind of number", "A;1e1", "", api.ErrScore},
		{"an underscore", "A;1_0", "", api.ErrScore},
		{"a point", "A;5.", "", api.ErrScore},
		{"digits of another kind", "A;\u0665", "", api.ErrScore},
		{"digits of another kind", "A;\uff15", "", api.ErrScore},
		{"a second separator", "A;5;5", "", api.ErrScore},
		{"a second separator", "A;5;", "", api.ErrScore},
		{"a byte that is no rune", "A;5\xff", "", api.ErrScore},
		{"a blank's second byte alone", "A;5\xa0", "", api.ErrScore},
		{"a blank's first byte alone", "A;\xc25", "", api.ErrScore},
		{"a blank of another kind", "A;5\u2003", "", api.ErrScore},
		{"a remark behind the score", "A;5#", "", api.ErrScore},

		{"ErrForm ahead of ErrScore", "1;101", "", api.ErrForm},
		{"ErrForm ahead of ErrScore", ";x", "", api.ErrForm},
		{"ErrScore ahead of ErrCell", "X;101", "", api.ErrScore},
		{"ErrScore ahead of ErrLong", line32 + "A;", "", api.ErrScore},
	} {
		list, refused, e := lexicon.Read(a, x.line)
		want := []api.Refused{{Line: 0, Err: x.e}}
		if x.e == api.OK {
			want = nil
		}
		if e != api.OK || list.Print() != x.print || !slices.Equal(refused, want) {
			t.Errorf("%s: Read(%.80q) = %q, %v, %d, want %q, %v", x.why, x.line, list.Print(), refused, e, x.print, want)
		}
		compareRead(t, a, x.line)
		compareRead(t, a, "\n#\n"+x.line+"\r\nÉ;9\n"+x.line)
	}
}

// P9.1: all lines are counted, those that say nothing too, whatever ends them.
func TestLinesAreCounted(t *testing.T) {
	a := alphabet(t, "A", "B")
	x, refused, e := lexicon.Read(a, "\n \n#;\r\n1\r\n\r\nA\nB;7\r\nX\nA;\n\nab\rba\n;")
	want := []api.Refused{{Line: 3, Err: api.ErrForm}, {Line: 7, Err: api.ErrCell}, {Line: 8, Err: api.ErrScore}, {Line: 11, Err: api.ErrForm}}
	if x.Print() != "A;50\nB;7\nABBA;50\n" || !slices.Equal(refused, want) || e != api.OK {
		t.Errorf("%q, %v, %d", x.Print(), refused, e)
	}
	if x, refused, e := lexicon.Read(a, ""); x == nil || x.Len() != 0 || len(refused) != 0 || e != api.OK {
		t.Error("no line", x, refused, e)
	}
}

// P9.1, P9.2: of a word that stands several times the greatest score counts, wherever it stands.
func TestGreatestScore(t *testing.T) {
	a := alphabet(t, "A", "B")
	for _, x := range []struct{ text, print string }{
		{"A;3\nA;9\nA;4", "A;9\n"},
		{"A;0\na;0", "A;0\n"},
		{"A\nA;49", "A;50\n"},
		{"A;51\nA", "A;51\n"},
		{"A;51\nB;60\na a;100\n -A-;52\nA;101", "A;52\nB;60\nAA;100\n"},
	} {
		list, _, _ := lexicon.Read(a, x.text)
		if list.Print() != x.print {
			t.Errorf("%q: %q, want %q", x.text, list.Print(), x.print)
		}
		compareRead(t, a, x.text)
	}
}

// many is a word for each number: of so many letters of two.
func many(i, letters int) string {
	word := strconv.FormatInt(int64(i), 2)
	return strings.NewReplacer("0", "A", "1", "B").Replace(strings.Repeat("0", letters-len(word)) + word)
}

// P9.1: with 1000 words a new one is refused, and one that is there still gets its score.
func TestTooManyWords(t *testing.T) {
	a := alphabet(t, "A", "B")
	var lines []string
	for i := range 1003 {
		lines = append(lines, many(i, 10))
	}
	x, refused, e := lexicon.Read(a, strings.Join(lines, "\n"))
	want := []api.Refused{{Line: 1000, Err: api.ErrWords}, {Line: 1001, Err: api.ErrWords}, {Line: 1002, Err: api.ErrWords}}
	if x.Len() != 1000 || !slices.Equal(refused, want) || e != api.OK {
		t.Fatal(x.Len(), refused, e)
	}
	if x.Text(999) != many(999, 10) || x.Text(1000) != "" {
		t.Error(x.Text(999), x.Text(1000))
	}
	for _, more := range []string{"A", "B;9", "X", ";", "A;101", "#", " ", lines[0] + ";77", lines[999] + ";88", lines[1000] + ";99", lines[5] + ";3", strings.Repeat("A", 33)} {
		compareRead(t, a, strings.Join(lines[:999], "\n")+"\n"+more+"\n"+lines[999]+"\n"+more+"\n"+more)
		compareRead(t, a, strings.Join(lines[:1000], "\n")+"\n"+more+"\n"+lines[1001]+"\n"+lines[7]+";70\n"+more)
	}
	compareRead(t, a, strings.Join(lines, ";x\n")+"\n"+strings.Join(lines[:1000], "\n"))
	compareRead(t, a, strings.Repeat("A;9\n", 2000)+strings.Join(lines, "\n"))
}

// P9.1: texts at the limit of bytes, and past it.
func TestLongTexts(t *testing.T) {
	a := alphabet(t, "A", "B")
	for n := api.MaxText - 2; n <= api.MaxText+3; n++ {
		for _, piece := range []string{"\n", " ", "A", "A\n", "#", ";", "\xff\n", "A;1\nX\n"} {
			text := strings.Repeat(piece, n/len(piece)+1)[:n]
			compareRead(t, a, text)
			x, refused, e := lexicon.Read(a, text)
			if n > api.MaxText && (x != nil || len(refused) != 0 || e != api.ErrText) {
				t.Errorf("%d bytes: %v, %v, %d", n, x, refused, e)
			}
		}
	}
	if x, refused, e := lexicon.Read(nil, strings.Repeat("A", 1<<20)); x != nil || refused != nil || e != api.ErrText {
		t.Error("far past the limit", x, refused, e)
	}
}

// P9.1, P9.3, P0: every line of at most five of these pieces, which do all that a line can do.
func TestAllShortLines(t *testing.T) {
	a := alphabet(t, "A", "AB")
	texts := []string{""}
	for range 5 {
		var longer []string
		for _, text := range texts {
			for _, piece := range []string{"a", "B", ";", "#", " ", "1", "0", "\xff", "\n"} {
				longer = append(longer, text+piece)
			}
		}
		for _, text := range longer {
			x, refused, e := lexicon.Read(a, text)
			want, wantRefused, wantE := wantRead(a, text)
			if !isSame(wordsOf(x), want) || !slices.Equal(refused, wantRefused) || e != wantE {
				t.Fatalf("Read(%q) = %v, %v, %d, want %v, %v", text, wordsOf(x), refused, e, want, wantRefused)
			}
		}
		texts = longer
	}
}

// P9.1: every rune ahead of a line, within the word, and within the score.
func TestEveryRune(t *testing.T) {
	a := alphabet(t, "A", "B")
	for r := range rune(0x2100) {
		text := string(r)
		for _, line := range []string{text, text + "#", "A" + text, "A;" + text + "5" + text, "A;5" + text + "5"} {
			x, refused, e := lexicon.Read(a, line)
			want, wantRefused, wantE := wantRead(a, line)
			if !isSame(wordsOf(x), want) || !slices.Equal(refused, wantRefused) || e != wantE {
				t.Fatalf("Read(%q) = %v, %v, %d, want %v, %v", line, wordsOf(x), refused, e, want, wantRefused)
			}
		}
	}
}

// alphabets are some of different kinds.
func alphabets(t *testing.T) []*alpha.Alphabet {
	return []*alpha.Alphabet{alphabet(t, "A"), alphabet(t, "B", "A"), alphabet(t, "C", "H", "CH", "A", "L", "LL"),
		alphabet(t, "ÉЯA", "É", "Я", "A"), forty(t)}
}

// byLot are words of the alphabet, of which many stand twice or begin alike.
func byLot(l *lots, a *alpha.Alphabet, n int) []api.Word {
	var words []api.Word
	for range n {
		cells := make([]int, 1+l.below(of(l, 2, 3, 5, 32)))
		for i := range cells {
			cells[i] = l.below(of(l, a.Size(), min(2, a.Size())))
		}
		words = append(words, api.Word{Cells: cells, Score: l.below(101)})
		if l.below(3) == 0 {
			words = append(words, api.Word{Cells: slices.Clone(of(l, words...).Cells), Score: of(l, 0, 100, l.below(101))})
		}
	}
	return words[:min(len(words), api.MaxWords)]
}

// spoilt has a fault or two somewhere in the list.
func spoilt(l *lots, a *alpha.Alphabet, words []api.Word) []api.Word {
	list := clone(words)
	for range 1 + l.below(2) {
		word := &list[l.below(len(list))]
		switch l.below(4) {
		case 0:
			word.Score = of(l, -1, 101, of(l, numbers...))
		case 1:
			word.Cells = nil
		case 2:
			word.Cells = make([]int, 33)
		case 3:
			word.Cells = append(word.Cells, of(l, -1, a.Size(), of(l, numbers...)))
			shuffle(l, word.Cells)
		}
	}
	return list
}

// P9.1, P9.2: lists by lot, of all lengths up to the greatest, and with faults in them.
func TestListsByLot(t *testing.T) {
	l := lots(9)
	for range 40 {
		for _, a := range alphabets(t) {
			words := byLot(&l, a, 1+l.below(30))
			compareNew(t, a, words)
			compareNew(t, a, spoilt(&l, a, words))
		}
	}
	for _, a := range alphabets(t) {
		words := byLot(&l, a, 1000)
		compareNew(t, a, words)
		compareNew(t, a, append(words, words[0]))
	}
}

// P9.2: of all short words of an alphabet the order is the one said, and the spans lie side by side.
func TestOrder(t *testing.T) {
	a := alphabet(t, "C", "A", "B")
	var words []api.Word
	for n := 1; n <= 5; n++ {
		for k := range int(math.Pow(3, float64(n))) {
			cells := make([]int, n)
			for i := n - 1; i >= 0; i-- {
				cells[i], k = k%3, k/3
			}
			words = append(words, api.Word{Cells: cells, Score: n})
		}
	}
	want := clone(words)
	l := lots(92)
	for range 10 {
		shuffle(&l, words)
		x, _, e := lexicon.New(a, words)
		if e != api.OK || !isSame(wordsOf(x), want) {
			t.Fatal("order", e)
		}
		end := 0
		for n := 1; n <= 5; n++ {
			from, to := x.Span(n)
			if from != end || to-from != int(math.Pow(3, float64(n))) {
				t.Fatal("Span", n, from, to)
			}
			end = to
		}
		for i, word := range want {
			if k, ok := x.Find(word.Cells); k != i || !ok {
				t.Fatal("Find", word.Cells, k, ok)
			}
		}
	}
}

// untidy is a line that says the word, as a hand might write it.
func untidy(l *lots, word string, score int) string {
	var b strings.Builder
	for i, r := range word {
		if i > 0 && l.below(6) == 0 {
			b.WriteString(of(l, "-", "'", " ", "\u00a0", "3", "\xff", "\u0301", "."))
		}
		b.WriteString(of(l, string(r), strings.ToLower(string(r))))
	}
	digits := strconv.Itoa(score)
	if len(digits) < 3 && l.below(4) == 0 {
		digits = "0" + digits
	}
	space := func() string { return strings.Repeat(of(l, blanks...), of(l, 0, 0, 0, 1, 2)) }
	line := space() + b.String() + space() + ";" + space() + digits + space()
	if score == 50 && l.below(2) == 0 {
		line, _, _ = strings.Cut(line, ";")
	}
	return line
}

// P9.1, P9.3: texts by lot, with lines of every kind; the order of lines, and lines that stand twice, change nothing.
func TestTextsByLot(t *testing.T) {
	l := lots(93)
	for range 60 {
		for _, a := range alphabets(t) {
			var lines []string
			for _, word := range byLot(&l, a, 1+l.below(40)) {
				text, _ := a.Join(word.Cells)
				lines = append(lines, untidy(&l, text, word.Score))
				if l.below(3) == 0 {
					lines = append(lines, of(&l, "", " ", "# x;", "X;5", "A;", ";", "a;101", "É", strings.Repeat("a", 40), "\xff", of(&l, lines...)))
				}
			}
			text := strings.Join(lines, "\n")
			compareRead(t, a, text)
			x, _, _ := lexicon.Read(a, text)
			twice := append(slices.Clone(lines), lines[:l.below(len(lines)+1)]...)
			shuffle(&l, twice)
			again, _, e := lexicon.Read(a, strings.Join(twice, of(&l, "\n", "\r\n")))
			if again.Print() != x.Print() || e != api.OK {
				t.Fatalf("%q in another order: %q, want %q", lines, again.Print(), x.Print())
			}
		}
	}
}

// P9.3: Read of Print, whose lines may stand in any order, and twice.
func TestReadOfPrint(t *testing.T) {
	l := lots(94)
	for range 60 {
		for _, a := range alphabets(t) {
			var text strings.Builder
			for _, word := range byLot(&l, a, 1+l.below(60)) {
				written, _ := a.Join(word.Cells)
				text.WriteString(written + ";" + strconv.Itoa(word.Score) + "\n")
			}
			x, refused, e := lexicon.Read(a, text.String())
			if len(refused) > 0 || e != api.OK {
				t.Fatalf("%q: %v, %d", text.String(), refused, e)
			}
			lines := strings.SplitAfter(x.Print(), "\n")
			lines = append(lines, lines...)
			for range 3 {
				again, refused, e := lexicon.Read(a, strings.Join(lines, ""))
				if !isSame(wordsOf(again), wordsOf(x)) || again.Print() != x.Print() || len(refused) != 0 || e != api.OK {
					t.Fatalf("%q, %v, %d, want %q", again.Print(), refused, e, x.Print())
				}
				shuffle(&l, lines)
			}
		}
	}
}

// P9.1 ahead of P9.3: scores that no line has said make a text longer, so that it may be too long to be read.
func TestPrintPastTheLimit(t *testing.T) {
	a := alphabet(t, "É", "Ж")
	var lines []string
	for i := range 1000 {
		lines = append(lines, strings.NewReplacer("A", "É", "B", "Ж").Replace(many(i, 32)))
	}
	text := strings.Join(lines, "\n")
	compareRead(t, a, text)
	x, refused, e := lexicon.Read(a, text)
	if x.Len() != 1000 || len(refused) != 0 || e != api.OK {
		t.Fatal(x.Len(), refused, e)
	}
	if y, refused, e := lexicon.Read(a, x.Print()); y != nil || len(refused) != 0 || e != api.ErrText {
		t.Error(len(x.Print()), y, refused, e)
	}
}

// P0.2: a word list as text and as a list is the same words.
func TestTextAndList(t *testing.T) {
	l := lots(2)
	for range 30 {
		for _, a := range alphabets(t) {
			var text strings.Builder
			for _, word := range byLot(&l, a, 1+l.below(60)) {
				written, _ := a.Join(word.Cells)
				text.WriteString(untidy(&l, written, word.Score) + "\n")
			}
			x, _, _ := lexicon.Read(a, text.String())
			y, at, e := lexicon.New(a, wordsOf(x))
			if at != 0 || e != api.OK {
				t.Fatal(at, e)
			}
			compare(t, a, y, wordsOf(x))
		}
	}
}

// roomy has the same items, and room behind them that is written over.
func roomy(list []int) []int {
	return append(slices.Clone(list), -7, -8, -9)[:len(list)]
}

// spoil writes over a list and the room behind it.
func spoil(list []int) {
	list = list[:cap(list)]
	for i := range list {
		list[i] = 77
	}
}

// P9.4: New changes and keeps nothing of its list; no more does Find.
func TestHandedIn(t *testing.T) {
	l := lots(4)
	for _, a := range alphabets(t) {
		words := byLot(&l, a, 50)
		room := make([]api.Word, len(words)+3)
		for i, word := range words {
			room[i] = api.Word{Cells: roomy(word.Cells), Score: word.Score}
		}
		for i := len(words); i < len(room); i++ {
			room[i] = api.Word{Cells: []int{-5}, Score: -6}
		}
		x, _, e := lexicon.New(a, room[:len(words)])
		if e != api.OK {
			t.Fatal(e)
		}
		for i, word := range words {
			if room[i].Score != word.Score || !slices.Equal(room[i].Cells, word.Cells) {
				t.Fatal("New has changed its list", i)
			}
			behind := room[i].Cells[len(word.Cells) : len(word.Cells)+3]
			if !slices.Equal(behind, []int{-7, -8, -9}) {
				t.Fatal("New has changed what stands behind a word", behind)
			}
		}
		for i := len(words); i < len(room); i++ {
			if room[i].Score != -6 || !slices.Equal(room[i].Cells, []int{-5}) {
				t.Fatal("New has changed what stands behind its list", room[i])
			}
		}
		for _, word := range words {
			cells := roomy(word.Cells)
			x.Find(cells)
			if !slices.Equal(cells, word.Cells) || !slices.Equal(cells[len(cells):len(cells)+3], []int{-7, -8, -9}) {
				t.Fatal("Find has changed its list", cells)
			}
			spoil(cells)
		}
		for i := range room {
			spoil(room[i].Cells)
			room[i] = api.Word{Cells: []int{0}, Score: 1}
		}
		want, _, _ := wantNew(a.Size(), words)
		compare(t, a, x, want)
	}
}

// P9.4: lists that are answered are new memory, each with room of its own.
func TestAnswersAreNew(t *testing.T) {
	l := lots(49)
	for _, a := range alphabets(t) {
		words := byLot(&l, a, 50)
		x, _, _ := lexicon.New(a, words)
		want, _, _ := wantNew(a.Size(), words)
		answers := wordsOf(x)
		for i := range answers {
			spoil(answers[i].Cells)
			answers[i].Cells = append(answers[i].Cells, 78)
			for k, later := range answers[i+1:] {
				if !slices.Equal(later.Cells, want[i+1+k].Cells) {
					t.Fatal("two answers share memory", i, i+1+k)
				}
			}
		}
		first, second := x.Word(0), x.Word(0)
		spoil(first.Cells)
		if !slices.Equal(second.Cells, want[0].Cells) {
			t.Fatal("two answers share memory", second)
		}
		compare(t, a, x, want)
	}

	a := alphabet(t, "A", "B")
	const text = "A\nX\nB;7\nAB;\n;"
	x, refused, _ := lexicon.Read(a, text)
	y, others, _ := lexicon.Read(a, text)
	for i := range refused[:cap(refused)] {
		refused[:cap(refused)][i] = api.Refused{Line: 77, Err: 77}
	}
	if !slices.Equal(others, []api.Refused{{Line: 1, Err: api.ErrCell}, {Line: 3, Err: api.ErrScore}, {Line: 4, Err: api.ErrForm}}) {
		t.Error("two lists of lines share memory", others)
	}
	compareRead(t, a, text)
	compare(t, a, x, wordsOf(y))
}

// P9.4: the alphabet isn't kept: what stands in its place later is not asked.
func TestAlphabetIsNotKept(t *testing.T) {
	a, other := alphabet(t, "A", "B"), alphabet(t, "X")
	x, _, _ := lexicon.Read(a, "AB;5\nB")
	*a = *other
	if x.Print() != "B;50\nAB;5\n" || x.Text(1) != "AB" {
		t.Errorf("%q", x.Print())
	}
}

// One answer: the same list, text and lexicon answer the same, whatever a map's order is; two lexicons never meet.
func TestOneAnswer(t *testing.T) {
	l := lots(8)
	a, b := forty(t), alphabet(t, "B", "A")
	words := byLot(&l, a, 700)
	x, _, _ := lexicon.New(a, words)
	y, _, _ := lexicon.Read(b, "A\nB;3")
	for range 20 {
		again, _, _ := lexicon.New(a, words)
		if !isSame(wordsOf(again), wordsOf(x)) {
			t.Fatal("New answers two things")
		}
		lexicon.New(b, words)
		if y.Print() != "B;3\nA;50\n" {
			t.Fatal("two lexicons meet", y.Print())
		}
	}
	seen := map[string]int{}
	for range 20 {
		z, _, _ := lexicon.Read(a, x.Print())
		seen[z.Print()]++
	}
	if len(seen) != 1 {
		t.Error("Read answers", len(seen), "things", slices.Collect(maps.Values(seen)))
	}
}
