package alpha_test

import (
	"iter"
	"math"
	"runtime/debug"
	"slices"
	"strings"
	"testing"

	"rebus/alpha"
	"rebus/api"
	"rebus/fold"
)

// lists are alphabets of many kinds: letters that begin, end or hold one another, of one byte to six, in any order.
func lists() [][]string {
	return [][]string{
		{"A"},
		{"AAA"},
		{"A", "B"},
		{"A", "AA"},
		{"AA", "A"},
		{"A", "AA", "AAA"},
		{"AAA", "A", "AA"},
		{"AA", "AAA"},
		{"AB", "A", "BC"},
		{"A", "AB", "ABC", "B", "BC", "C"},
		{"BC", "C", "ABC", "B", "A", "AB"},
		{"C", "H", "CH", "A", "L", "LL"},
		{"É", "A", "ÉA", "AÉ", "ÉÉÉ"},
		{"Ж", "ЖΩ", "A", "AAA", "ΩA"},
		{"ß", "ßA", "A", "Aß"},
	}
}

// hardPieces are what texts are put together from: letters of the alphabets above, and what is none.
func hardPieces() []string {
	return []string{"A", "B", "C", "H", "L", "É", "Ж", "Ω", "ß", "a", "\xff", "\xc3", "\x89", "1"}
}

// made answers the alphabet of a list that may be.
func made(t *testing.T, list ...string) *alpha.Alphabet {
	t.Helper()
	a, at, err := alpha.New(list)
	if a == nil || at != 0 || err != api.OK {
		t.Fatalf("New(%q) = %v, %d, %d", list, a, at, err)
	}
	return a
}

// eachText gives every text of at most so many of the pieces.
func eachText(pieces []string, most int) iter.Seq[string] {
	return func(yield func(string) bool) {
		texts := []string{""}
		for range most + 1 {
			var longer []string
			for _, s := range texts {
				if !yield(s) {
					return
				}
				for _, piece := range pieces {
					longer = append(longer, s+piece)
				}
			}
			texts = longer
		}
	}
}

// eachCase gives each alphabet with the texts that try it: many short ones of hard pieces, longer ones of its letters.
func eachCase(t *testing.T, do func(list []string, a *alpha.Alphabet, s string)) {
	for _, list := range lists() {
		a := made(t, list...)
		for s := range eachText(hardPieces(), 3) {
			do(list, a, s)
		}
		for s := range eachText(list, 4) {
			do(list, a, s)
			do(list, a, s+"X")
		}
	}
}

// waysOf is the oracle of Each: the ways in their order, by letters' lengths from the greatest one down.
func waysOf(list []string, s string) [][]int {
	if s == "" {
		return [][]int{{}}
	}
	var ways [][]int
	for width := len(s); width > 0; width-- {
		i := slices.Index(list, s[:width])
		if i < 0 {
			continue
		}
		for _, rest := range waysOf(list, s[width:]) {
			ways = append(ways, append([]int{i}, rest...))
		}
	}
	return ways
}

// splitOf is the oracle of Split.
func splitOf(list []string, s string) ([]int, int, api.Errno) {
	var cells []int
	for at := 0; at < len(s); {
		longest := -1
		for i, name := range list {
			if strings.HasPrefix(s[at:], name) && (longest < 0 || len(name) > len(list[longest])) {
				longest = i
			}
		}
		if len(cells) == 32 {
			return nil, at, api.ErrLong
		}
		if longest < 0 {
			return nil, at, api.ErrCell
		}
		cells = append(cells, longest)
		at += len(list[longest])
	}
	return cells, 0, api.OK
}

func gather(seq iter.Seq[[]int]) [][]int {
	var all [][]int
	for cells := range seq {
		all = append(all, cells)
	}
	return all
}

func sameWays(a, b [][]int) bool {
	return slices.EqualFunc(a, b, func(x, y []int) bool { return slices.Equal(x, y) })
}

func wantSplit(t *testing.T, a *alpha.Alphabet, s string, cells []int, place int, want api.Errno) {
	t.Helper()
	got, at, err := a.Split(s)
	if !slices.Equal(got, cells) || at != place || err != want {
		t.Errorf("Split(%.80q) = %v, %d, %d, want %v, %d, %d", s, got, at, err, cells, place, want)
	}
}

func wantRefused(t *testing.T, place int, want api.Errno, list ...string) {
	t.Helper()
	a, at, err := alpha.New(list)
	if a != nil || at != place || err != want {
		t.Errorf("New(%.80q) = %v, %d, %d, want nil, %d, %d", list, a, at, err, place, want)
	}
}

// numbered answers n texts of two runes, no two the same.
func numbered(n int) []string {
	var list []string
	for i := range n {
		list = append(list, string([]rune{rune('A' + i/26), rune('A' + i%26)}))
	}
	return list
}

func TestExamples(t *testing.T) {
	a := made(t, "C", "H", "CH", "A", "L", "LL")
	wantSplit(t, a, "CHALL", []int{2, 3, 5}, 0, api.OK)
	wantSplit(t, a, "CHAX", nil, 3, api.ErrCell)
	wantSplit(t, a, "xA", nil, 0, api.ErrCell)
	wantSplit(t, a, "", nil, 0, api.OK)
	if n := a.Ways("CHALL"); n != 4 {
		t.Error("Ways", n)
	}
	if all := gather(a.Each("CHA")); !sameWays(all, [][]int{{2, 3}, {0, 1, 3}}) {
		t.Error("Each", all)
	}
	if s, err := a.Join([]int{0, 1}); s != "CH" || err != api.OK {
		t.Error("Join", s, err)
	}
	if a.Sure([]int{0, 1}) || !a.Sure([]int{2}) || a.Sure([]int{9}) {
		t.Error("Sure")
	}
	b := made(t, "AB", "A", "BC")
	wantSplit(t, b, "ABC", nil, 2, api.ErrCell)
	if n := b.Ways("ABC"); n != 1 {
		t.Error("Ways", n)
	}
	wantRefused(t, 0, api.ErrMany)
	wantRefused(t, 1, api.ErrLetter, "A", "a")
	wantRefused(t, 1, api.ErrTwice, "A", "A")
	wantRefused(t, 0, api.ErrLetter, "ABCD")
	wantRefused(t, 0, api.ErrLetter, "")
}

func TestHowManyLetters(t *testing.T) {
	wantRefused(t, 0, api.ErrMany, []string{}...)
	wantRefused(t, 0, api.ErrMany, numbered(41)...)
	wantRefused(t, 0, api.ErrMany, numbered(400)...)
	// The number of texts is looked at ahead of the texts.
	wantRefused(t, 0, api.ErrMany, make([]string, 41)...)
	wantRefused(t, 39, api.ErrLetter, append(numbered(39), "a")...)
	wantRefused(t, 39, api.ErrTwice, append(numbered(39), "AB")...)
	for _, n := range []int{1, 2, 26, 39, 40} {
		list := numbered(n)
		a := made(t, list...)
		if a.Size() != n {
			t.Error("Size", a.Size(), n)
		}
		if s, err := a.Join([]int{n - 1, 0}); s != list[n-1]+list[0] || err != api.OK {
			t.Error("Join", s, err)
		}
	}
}

// TestEveryRune holds every rune as a letter, and behind others, against layer 2.
func TestEveryRune(t *testing.T) {
	for r := rune(0); r <= 0x10FFFF; r++ {
		if r >= 0xD800 && r < 0xE000 {
			continue
		}
		may := fold.Class(r) == 1 && fold.Upper(r) == r
		for _, head := range []string{"", "Q", "QQ"} {
			name := head + string(r)
			a, at, err := alpha.New([]string{"XYZ", name})
			if may && (a == nil || at != 0 || err != api.OK || a.Name(1) != name) {
				t.Fatalf("New(%q) = %v, %d, %d", name, a, at, err)
			}
			if !may && (a != nil || at != 1 || err != api.ErrLetter) {
				t.Fatalf("New(%q) = %v, %d, %d, want ErrLetter", name, a, at, err)
			}
		}
	}
}

func TestLettersThatMayBe(t *testing.T) {
	// Its own capital is also a small letter that has no other one.
	for _, name := range []string{"A", "Z", "AB", "ABC", "AAA", "É", "ÉÈÊ", "ΩЖA", "ß", "ßß", "\u0131", "\u0138", "\u0149", "\u017f", "\u0178", "\u0400", "\u042f"} {
		a := made(t, name)
		if a.Name(0) != name {
			t.Errorf("Name of %q: %q", name, a.Name(0))
		}
		wantSplit(t, a, name+name, []int{0, 0}, 0, api.OK)
	}
}

func TestLettersThatMayNotBe(t *testing.T) {
	bad := []string{
		"", "ABCD", "ÉÉÉÉ", "AAAA", strings.Repeat("A", 1000),
		"a", "z", "é", "ÿ", "ω", "ς", "ж", "aB", "Ab", "ABc", "AbC",
		"1", "A1", "1A", "A A", " ", " A", "A ", "\n", "\x00", "A\x00", "-", "A'",
		"\u0301", "A\u0301", "E\u0301", "\u00d7", "\u00f7", "\u03a2", "\u0460", "漢", "\U0001f600",
		"\xff", "A\xff", "\xffA", "AB\xff", "\xc3", "A\xc3", "\x89", "\xc3A", "\xef\xbf\xbd", "A\xef\xbf\xbd", "\xed\xa0\x80", "\xc1\x81",
	}
	for _, name := range bad {
		wantRefused(t, 0, api.ErrLetter, name)
		wantRefused(t, 2, api.ErrLetter, "A", "B", name, "C")
		wantRefused(t, 0, api.ErrLetter, name, name)
	}
}

func TestFirstFault(t *testing.T) {
	wantRefused(t, 1, api.ErrTwice, "A", "A", "a")
	wantRefused(t, 1, api.ErrLetter, "A", "a", "A")
	wantRefused(t, 2, api.ErrTwice, "A", "B", "A", "B")
	wantRefused(t, 3, api.ErrTwice, "A", "AB", "B", "AB")
	wantRefused(t, 2, api.ErrTwice, "ABC", "É", "É")
	// Texts that only begin one another, or hold the same runes, are not the same.
	made(t, "A", "AA", "AAA", "AB", "BA", "B")
}

func TestNamesAndNumbers(t *testing.T) {
	for _, list := range lists() {
		a := made(t, list...)
		if a.Size() != len(list) {
			t.Error("Size", a.Size(), list)
		}
		for i, name := range list {
			if got := a.Name(i); got != name {
				t.Errorf("Name(%d) of %q: %q", i, list, got)
			}
		}
		for _, i := range []int{-1, len(list), len(list) + 1, 40, 41, math.MinInt, math.MaxInt} {
			if got := a.Name(i); got != "" {
				t.Errorf("Name(%d) of %q: %q", i, list, got)
			}
		}
		for s := range eachText(hardPieces(), 3) {
			i, ok := a.Number(s)
			want := slices.Index(list, s)
			if ok != (want >= 0) || i != max(want, 0) {
				t.Errorf("Number(%q) of %q: %d, %v", s, list, i, ok)
			}
		}
	}
}

func TestSplit(t *testing.T) {
	eachCase(t, func(list []string, a *alpha.Alphabet, s string) {
		cells, place, want := splitOf(list, s)
		wantSplit(t, a, s, cells, place, want)
	})
}

func TestSplitLimit(t *testing.T) {
	a := made(t, "A", "É", "ÉA", "AAA")
	zeros := make([]int, 32)
	ones := slices.Repeat([]int{1}, 32)
	threes := slices.Repeat([]int{3}, 32)
	b := made(t, "A")
	wantSplit(t, b, strings.Repeat("A", 31), zeros[:31], 0, api.OK)
	wantSplit(t, b, strings.Repeat("A", 32), zeros, 0, api.OK)
	wantSplit(t, b, strings.Repeat("A", 33), nil, 32, api.ErrLong)
	wantSplit(t, b, strings.Repeat("A", 65536), nil, 32, api.ErrLong)
	wantSplit(t, a, strings.Repeat("É", 32), ones, 0, api.OK)
	wantSplit(t, a, strings.Repeat("É", 33), nil, 64, api.ErrLong)
	wantSplit(t, a, strings.Repeat("AAA", 32), threes, 0, api.OK)
	wantSplit(t, a, strings.Repeat("AAA", 32)+"A", nil, 96, api.ErrLong)
	// Behind 32 letters anything is too much; behind 31 it is looked at.
	for _, rest := range []string{"X", "a", "\xff", "\xc3", "XA"} {
		wantSplit(t, a, strings.Repeat("É", 32)+rest, nil, 64, api.ErrLong)
		wantSplit(t, a, strings.Repeat("É", 31)+rest, nil, 62, api.ErrCell)
		wantSplit(t, a, rest+strings.Repeat("É", 40), nil, 0, api.ErrCell)
	}
}

func TestWays(t *testing.T) {
	eachCase(t, func(list []string, a *alpha.Alphabet, s string) {
		if n, want := a.Ways(s), len(waysOf(list, s)); n != want {
			t.Errorf("Ways(%q) of %q: %d, want %d", s, list, n, want)
		}
	})
}

func TestWaysLimit(t *testing.T) {
	a := made(t, "A", "B", "AA")
	// A way ends with A or with AA: Fibonacci's numbers.
	for n, want := range []int{1, 1, 2, 3, 5, 8, 13, 21, 34, 55, 89, 144, 233, 377, 610, 987, 1597, 2584, 4181, 6765, 10946, 17711, 28657, 46368, 75025, 100000, 100000, 100000} {
		if got := a.Ways(strings.Repeat("A", n)); got != want {
			t.Errorf("Ways of %d times A: %d, want %d", n, got, want)
		}
	}
	for _, x := range []struct {
		s    string
		want int
	}{
		// Parts' ways multiply: 46368 by 2; nine times 3, by 5; five times 2 by five times 5 is the limit itself.
		{strings.Repeat("A", 23) + "B" + "AA", 92736},
		{strings.Repeat("AAAB", 9) + "AAAA", 98415},
		{strings.Repeat("AAB", 5) + strings.Repeat("AAAAB", 5), 100000},
		{strings.Repeat("AAB", 6) + strings.Repeat("AAAAB", 5), 100000},
		{"B" + strings.Repeat("A", 25), 100000},
		{strings.Repeat("B", 65536), 1},
		{strings.Repeat("A", 65536), 100000},
		{strings.Repeat("A", 3000000), 100000},
		{strings.Repeat("A", 65536) + "X", 0},
		{"X" + strings.Repeat("A", 65536), 0},
		{strings.Repeat("A", 30) + "X" + strings.Repeat("A", 30), 0},
		{strings.Repeat("A", 30) + "\xff", 0},
	} {
		if got := a.Ways(x.s); got != x.want {
			t.Errorf("Ways(%.40q..): %d, want %d", x.s, got, x.want)
		}
	}
}

// TestWaysWithTheMostLetters has six letters of different lengths at each place, the most there can be.
func TestWaysWithTheMostLetters(t *testing.T) {
	list := []string{"A", "AA", "AAA", "É", "ÉÉ", "ÉÉÉ"}
	a := made(t, list...)
	for _, s := range []string{strings.Repeat("A", 200000), strings.Repeat("É", 200000), strings.Repeat("AAÉÉ", 50000)} {
		if n := a.Ways(s); n != 100000 {
			t.Error("Ways", n)
		}
	}
}

func TestEach(t *testing.T) {
	eachCase(t, func(list []string, a *alpha.Alphabet, s string) {
		seq := a.Each(s)
		if seq == nil {
			t.Fatalf("Each(%q) of %q is no sequence", s, list)
		}
		want := waysOf(list, s)
		if got := gather(seq); !sameWays(got, want) {
			t.Errorf("Each(%q) of %q: %v, want %v", s, list, got, want)
		}
	})
}

func TestEachLonger(t *testing.T) {
	list := []string{"AA", "A", "ABA", "B", "AB"}
	a := made(t, list...)
	for s := range eachText([]string{"A", "B", "ABA"}, 6) {
		if got, want := gather(a.Each(s)), waysOf(list, s); !sameWays(got, want) {
			t.Errorf("Each(%q): %v, want %v", s, got, want)
		}
	}
	// The limit of cells is Split's alone.
	s := strings.Repeat("AB", 20)
	if got := gather(made(t, "A", "B").Each(s)); len(got) != 1 || len(got[0]) != 40 {
		t.Error("Each of 40 letters", got)
	}
}

// TestEachIsStopped stops at every list, and goes through the same sequence again.
func TestEachIsStopped(t *testing.T) {
	list := []string{"A", "AA", "AAA", "B"}
	a := made(t, list...)
	for _, s := range []string{"", "A", "AAB", "BAAAA", "AAAAAA", "AAAX"} {
		seq := a.Each(s)
		want := waysOf(list, s)
		for most := range len(want) + 1 {
			var got [][]int
			for cells := range seq {
				if len(got) == most {
					break
				}
				got = append(got, cells)
			}
			if !sameWays(got, want[:most]) {
				t.Errorf("Each(%q) stopped at %d: %v", s, most, got)
			}
		}
		if got := gather(seq); !sameWays(got, want) {
			t.Errorf("Each(%q) again: %v", s, got)
		}
	}
}

// TestEachWithin goes through a sequence while it is gone through.
func TestEachWithin(t *testing.T) {
	list := []string{"A", "AA", "B"}
	a := made(t, list...)
	seq := a.Each("AAABAA")
	want := waysOf(list, "AAABAA")
	n := 0
	for outer := range seq {
		if !slices.Equal(outer, want[n]) {
			t.Error("outer", n, outer)
		}
		if inner := gather(seq); !sameWays(inner, want) {
			t.Error("inner", n, inner)
		}
		n++
	}
	if n != len(want) {
		t.Error("lists", n)
	}
}

// TestEachFindsItsWay: of a text with ways beyond number the first are told at once, and of one with none that there is none.
func TestEachFindsItsWay(t *testing.T) {
	a := made(t, "A", "AA", "AAA", "AB")
	long := strings.Repeat("AAA", 1000)
	n := 0
	for cells := range a.Each(long) {
		if s, err := a.Join(cells); s != long || err != api.OK {
			t.Fatal("Join", err)
		}
		n++
		if n == 100 {
			break
		}
	}
	if n != 100 {
		t.Error("lists", n)
	}
	for _, s := range []string{long + "X", long + "BB", long + "\xff", "X" + long, long + "B" + long + "X"} {
		if a.Ways(s) != 0 {
			t.Error("Ways")
		}
		for range a.Each(s) {
			t.Fatal("a way of a text that has none")
		}
	}
	// The one way needs a short letter at the very end only.
	b := made(t, "A", "AA")
	odd := strings.Repeat("A", 3001)
	for cells := range b.Each(odd) {
		if len(cells) != 1501 || cells[1500] != 0 || cells[1499] != 1 {
			t.Error("first way", len(cells))
		}
		break
	}
}

// TestEachOfAVeryLongText: how long a text may be doesn't hang on how many calls may be within one another.
func TestEachOfAVeryLongText(t *testing.T) {
	defer debug.SetMaxStack(debug.SetMaxStack(1 << 22))
	a := made(t, "A", "B")
	long := strings.Repeat("AB", 500000)
	all := gather(a.Each(long))
	if len(all) != 1 || len(all[0]) != len(long) {
		t.Fatal("Each", len(all))
	}
	if s, err := a.Join(all[0]); s != long || err != api.OK {
		t.Error("Join", err)
	}
	if a.Sure(all[0]) {
		t.Error("Sure of more than 32 letters")
	}
}

func TestJoin(t *testing.T) {
	for _, list := range lists() {
		a := made(t, list...)
		var all []int
		for i := range list {
			all = append(all, i)
			s, err := a.Join(all)
			if s != strings.Join(list[:i+1], "") || err != api.OK {
				t.Errorf("Join(%v) of %q: %q, %d", all, list, s, err)
			}
		}
		for _, none := range [][]int{nil, {}} {
			if s, err := a.Join(none); s != "" || err != api.OK {
				t.Errorf("Join of none: %q, %d", s, err)
			}
		}
		for _, wrong := range []int{-1, len(list), len(list) + 1, 40, 63, math.MinInt, math.MaxInt} {
			for at := range len(all) + 1 {
				cells := slices.Insert(slices.Clone(all), at, wrong)
				if s, err := a.Join(cells); s != "" || err != api.ErrNumber {
					t.Errorf("Join(%v) of %q: %q, %d", cells, list, s, err)
				}
				if a.Sure(cells) {
					t.Errorf("Sure(%v) of %q", cells, list)
				}
			}
		}
	}
}

// TestSure holds every short list against the oracle of Split.
func TestSure(t *testing.T) {
	for _, list := range lists() {
		a := made(t, list...)
		cellLists := [][]int{nil}
		for range 4 {
			var longer [][]int
			for _, cells := range cellLists {
				var s string
				for _, i := range cells {
					s += list[i]
				}
				again, _, err := splitOf(list, s)
				want := err == api.OK && slices.Equal(again, cells)
				if a.Sure(cells) != want {
					t.Errorf("Sure(%v) of %q: %v", cells, list, !want)
				}
				for i := range list {
					longer = append(longer, append(slices.Clone(cells), i))
				}
			}
			cellLists = longer
		}
	}
}

func TestNil(t *testing.T) {
	var a *alpha.Alphabet
	if a.Size() != 0 {
		t.Error("Size", a.Size())
	}
	for _, i := range []int{-1, 0, 1, math.MinInt, math.MaxInt} {
		if a.Name(i) != "" {
			t.Error("Name", i, a.Name(i))
		}
		if s, err := a.Join([]int{i}); s != "" || err != api.ErrNumber || a.Sure([]int{i}) {
			t.Error("Join", i, s, err)
		}
	}
	for _, s := range []string{"A", "\xff", strings.Repeat("A", 100)} {
		wantSplit(t, a, s, nil, 0, api.ErrCell)
		if a.Ways(s) != 0 || len(gather(a.Each(s))) != 0 {
			t.Error("ways of", s)
		}
		if i, ok := a.Number(s); i != 0 || ok {
			t.Error("Number", i, ok)
		}
	}
	wantSplit(t, a, "", nil, 0, api.OK)
	if a.Ways("") != 1 || !sameWays(gather(a.Each("")), [][]int{{}}) {
		t.Error("ways of nothing")
	}
	if i, ok := a.Number(""); i != 0 || ok {
		t.Error("Number", i, ok)
	}
	if s, err := a.Join(nil); s != "" || err != api.OK || !a.Sure(nil) {
		t.Error("Join", s, err)
	}
}

// TestThereAndBack is P3.2.
func TestThereAndBack(t *testing.T) {
	eachCase(t, func(list []string, a *alpha.Alphabet, s string) {
		cells, _, err := a.Split(s)
		if err != api.OK {
			return
		}
		if joined, err := a.Join(cells); joined != s || err != api.OK {
			t.Errorf("Join of Split(%q) of %q: %q, %d", s, list, joined, err)
		}
		if !a.Sure(cells) {
			t.Errorf("Split(%q) of %q isn't sure", s, list)
		}
		for first := range a.Each(s) {
			if !slices.Equal(first, cells) {
				t.Errorf("Each(%q) of %q begins with %v, Split is %v", s, list, first, cells)
			}
			break
		}
	})
}

// TestAllWays is P3.3, with as many ways as there may be.
func TestAllWays(t *testing.T) {
	a := made(t, "A", "AA", "B")
	for _, s := range []string{"", "A", "B", "X", "AAAAAABAAA", strings.Repeat("A", 20), strings.Repeat("AAAB", 9) + "AAAA"} {
		seen := map[string]bool{}
		n := 0
		for cells := range a.Each(s) {
			n++
			key := ""
			for _, i := range cells {
				key += string(rune('0' + i))
			}
			if seen[key] {
				t.Fatalf("Each(%q) gives %v twice", s, cells)
			}
			seen[key] = true
			if joined, err := a.Join(cells); joined != s || err != api.OK {
				t.Fatalf("Join of %v: %q, %d, want %q", cells, joined, err, s)
			}
		}
		if n != a.Ways(s) {
			t.Errorf("Each(%q) gives %d lists, Ways is %d", s, n, a.Ways(s))
		}
	}
}

// TestLettersOfOneRune is P3.4.
func TestLettersOfOneRune(t *testing.T) {
	for _, list := range [][]string{{"A"}, {"A", "B", "C"}, {"É", "A", "Ж", "ß"}} {
		a := made(t, list...)
		for start := range len(list) {
			var cells []int
			for n := range 41 {
				if a.Sure(cells) != (n <= 32) {
					t.Errorf("Sure of %d letters of %q: %v", n, list, a.Sure(cells))
				}
				s, _ := a.Join(cells)
				if ways := a.Ways(s); ways != 1 {
					t.Errorf("Ways(%q) of %q: %d", s, list, ways)
				}
				cells = append(cells, (start+n*n)%len(list))
			}
		}
		for s := range eachText(hardPieces(), 3) {
			if a.Ways(s) > 1 {
				t.Errorf("Ways(%q) of %q: %d", s, list, a.Ways(s))
			}
		}
	}
}

// TestWhatIsHandedIn is P3.5's first half.
func TestWhatIsHandedIn(t *testing.T) {
	room := []string{"AA", "A", "B", "behind", "it"}
	kept := slices.Clone(room)
	list := room[:3]
	a := made(t, list...)
	if !slices.Equal(room, kept) {
		t.Error("New has changed its list", room)
	}
	list[0], list[1], list[2] = "X", "Y", "Z"
	if a.Name(0) != "AA" || a.Name(1) != "A" || a.Name(2) != "B" {
		t.Error("New has kept its list")
	}
	wantSplit(t, a, "AAAB", []int{0, 1, 2}, 0, api.OK)

	cellRoom := []int{0, 2, 1, 77, 78}
	keptCells := slices.Clone(cellRoom)
	cells := cellRoom[:3]
	s, _ := a.Join(cells)
	sure := a.Sure(cells)
	if s != "AABA" || !sure || !slices.Equal(cellRoom, keptCells) {
		t.Error("Join, Sure", s, sure, cellRoom)
	}
	cells[0] = 1
	if s != "AABA" {
		t.Error("Join's text", s)
	}
}

// TestListsAreNew is P3.5's second half: what is done to an answered list is seen nowhere else.
func TestListsAreNew(t *testing.T) {
	list := []string{"A", "AA", "AAA"}
	a := made(t, list...)
	want := waysOf(list, "AAAAA")
	seq := a.Each("AAAAA")
	n := 0
	var all [][]int
	for cells := range seq {
		if !slices.Equal(cells, want[n]) {
			t.Fatal("Each, with the lists ahead of it changed", n, cells)
		}
		all = append(all, cells)
		spoil(cells)
		n++
	}
	for i, cells := range all {
		if len(cells) != len(want[i]) || slices.ContainsFunc(cells, func(x int) bool { return x != -9 }) {
			t.Error("a list was written to again", i, cells)
		}
	}
	if again := gather(seq); !sameWays(again, want) {
		t.Error("Each again", again)
	}

	first, _, _ := a.Split("AAAAA")
	second, _, _ := a.Split("AAAAA")
	spoil(first)
	if !slices.Equal(second, []int{2, 1}) {
		t.Error("Split's lists", second)
	}
	wantSplit(t, a, "AAAAA", []int{2, 1}, 0, api.OK)
	if a.Name(0) != "A" || a.Name(1) != "AA" || a.Name(2) != "AAA" {
		t.Error("the alphabet has changed")
	}
}

// spoil writes over a list and the room behind it.
func spoil(cells []int) {
	cells = cells[:cap(cells)]
	for i := range cells {
		cells[i] = -9
	}
}

// TestTwoAlphabets: alphabets never meet, and a refused one leaves nothing behind.
func TestTwoAlphabets(t *testing.T) {
	a := made(t, "A", "AB")
	b := made(t, "AB", "A", "B")
	wantRefused(t, 1, api.ErrTwice, "AB", "AB")
	wantSplit(t, a, "ABA", []int{1, 0}, 0, api.OK)
	wantSplit(t, b, "ABA", []int{0, 1}, 0, api.OK)
	if a.Ways("AB") != 1 || b.Ways("AB") != 2 || a.Size() != 2 || b.Size() != 3 {
		t.Error("two alphabets")
	}
}
