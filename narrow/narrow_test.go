package narrow_test

import (
	"fmt"
	"math"
	"slices"
	"testing"

	"rebus/alpha"
	"rebus/api"
	"rebus/dawg"
	"rebus/grid"
	"rebus/lexicon"
	"rebus/narrow"
	"rebus/slots"
	"rebus/turn"
)

// every is the mask of all letters.
const every = math.MaxUint64

// noLetters are ints that are no letter's number.
var noLetters = []int{math.MinInt, math.MinInt + 1, -1 << 32, -65536, -256, -64, -2, -1, 64, 65, 127, 128, 255, 256, 1 << 16, 1 << 32, 1<<32 + 1, math.MaxInt - 1, math.MaxInt}

// noSides are ints that are no side of a grid; two of them have a product that wraps.
var noSides = []int{math.MinInt, math.MinInt + 1, -1 << 32, -16, -1, 0, 17, 18, 256, 1 << 32, math.MaxInt - 1, math.MaxInt}

// lots draws numbers that are the same in every run.
type lots uint64

func (l *lots) below(n int) int {
	*l = *l*6364136223846793005 + 1442695040888963407
	return int(uint64(*l) >> 33 % uint64(n))
}

// shuffle lays the list in another order.
func shuffle[T any](l *lots, list []T) {
	for i := len(list) - 1; i > 0; i-- {
		k := l.below(i + 1)
		list[i], list[k] = list[k], list[i]
	}
}

// blank is the grid of open cells, made by hand.
func blank(h, w int) api.Grid {
	return api.Grid{H: h, W: w, Block: make([]bool, h*w), Right: make([]bool, h*w), Below: make([]bool, h*w)}
}

// sketched is the grid of rows of signs, a row of cells and a row of what stands
// between them by turns: . an open cell, # a block, + a bar; "" has no bar.
func sketched(rows ...string) api.Grid {
	at := func(r, c int) byte {
		if r < len(rows) && c < len(rows[r]) {
			return rows[r][c]
		}
		return ' '
	}
	g := blank((len(rows)+1)/2, (len(rows[0])+1)/2)
	for i := range g.Block {
		r, c := 2*(i/g.W), 2*(i%g.W)
		g.Block[i] = at(r, c) == '#'
		g.Right[i] = at(r, c+1) == '+'
		g.Below[i] = at(r+1, c) == '+'
	}
	return g
}

// byLot is a right grid: of a hundred cells so many are blocks, of a hundred
// places where a bar may stand so many have one.
func byLot(l *lots, h, w, blocks, bars int) api.Grid {
	g := blank(h, w)
	for i := range g.Block {
		g.Block[i] = l.below(100) < blocks
	}
	for i := range g.Block {
		g.Right[i] = i%w < w-1 && !g.Block[i] && !g.Block[i+1] && l.below(100) < bars
		g.Below[i] = i/w < h-1 && !g.Block[i] && !g.Block[i+w] && l.below(100) < bars
	}
	return g
}

// mask has these letters.
func mask(list ...int) uint64 {
	m := uint64(0)
	for _, letter := range list {
		m |= 1 << letter
	}
	return m
}

// given is the problem of the grid and the words, with all letters given.
func given(g api.Grid, words ...[]int) api.Problem {
	return api.Problem{Grid: g, Words: words, Given: slices.Repeat([]uint64{every}, len(g.Block))}
}

// word has a letter a digit of the text.
func word(text string) []int {
	list := []int{}
	for _, r := range text {
		list = append(list, int(r-'0'))
	}
	return list
}

// wordsOf are the words of these texts.
func wordsOf(texts ...string) [][]int {
	list := [][]int{}
	for _, text := range texts {
		list = append(list, word(text))
	}
	return list
}

// allWords are all words of n cells with letters below k, in their order.
func allWords(n, k int) [][]int {
	list := [][]int{{}}
	for range n {
		longer := [][]int{}
		for _, w := range list {
			for letter := range k {
				longer = append(longer, append(slices.Clone(w), letter))
			}
		}
		list = longer
	}
	return list
}

// wordByLot has n letters below k.
func wordByLot(l *lots, n, k int) []int {
	w := make([]int, n)
	for i := range w {
		w[i] = l.below(k)
	}
	return w
}

// problemByLot has a grid, words of its slots' lengths and others, and masks.
func problemByLot(l *lots) api.Problem {
	g := byLot(l, 1+l.below(5), 1+l.below(5), l.below(35), l.below(35))
	k := 2 + l.below(4)
	p := given(g)
	for range l.below(40) {
		p.Words = append(p.Words, wordByLot(l, 1+l.below(5), k))
	}
	if l.below(2) == 0 {
		for range 30 {
			p.Words = append(p.Words, wordByLot(l, 2+l.below(2), k))
		}
	}
	few := l.below(20)
	for i := range p.Given {
		if l.below(20) < few {
			p.Given[i] = uint64(l.below(1 << k))
		}
	}
	return p
}

// clone shares no memory with p.
func clone(p api.Problem) api.Problem {
	g := p.Grid
	g.Block, g.Right, g.Below = slices.Clone(g.Block), slices.Clone(g.Right), slices.Clone(g.Below)
	words := slices.Clone(p.Words)
	for i := range words {
		words[i] = slices.Clone(words[i])
	}
	return api.Problem{Grid: g, Words: words, Given: slices.Clone(p.Given)}
}

// cloneAnswer shares no memory with n.
func cloneAnswer(n api.Narrowed) api.Narrowed {
	n.Cells, n.Words = slices.Clone(n.Cells), slices.Clone(n.Words)
	for i := range n.Words {
		n.Words[i] = slices.Clone(n.Words[i])
	}
	return n
}

// isSameProblem and isSame tell whether two are alike, item by item.
func isSameProblem(p, q api.Problem) bool {
	return grid.Same(p.Grid, q.Grid) && slices.EqualFunc(p.Words, q.Words, slices.Equal[[]int]) && slices.Equal(p.Given, q.Given)
}

func isSame(a, b api.Narrowed) bool {
	return a.OK == b.OK && slices.Equal(a.Cells, b.Cells) && slices.EqualFunc(a.Words, b.Words, slices.Equal[[]int])
}

// seatsOf has for each cell the slots that have it, and its places in them.
func seatsOf(list []api.Slot, size int) [][]api.Seat {
	seats := make([][]api.Seat, size)
	for n, slot := range list {
		for at, i := range slot.Cells {
			seats[i] = append(seats[i], api.Seat{Slot: n, At: at})
		}
	}
	return seats
}

// stands tells whether the word may stand in the slot by the masks.
func stands(w []int, slot api.Slot, cells []uint64) bool {
	if len(w) != len(slot.Cells) {
		return false
	}
	for at, letter := range w {
		if cells[slot.Cells[at]]&mask(letter) == 0 {
			return false
		}
	}
	return true
}

// isBrought tells whether one of these words at least has the letter there.
func isBrought(p api.Problem, numbers []int, at, letter int) bool {
	return slices.ContainsFunc(numbers, func(w int) bool { return p.Words[w][at] == letter })
}

// holds tells whether the masks and lists are a choice as the chapter has it.
func holds(p api.Problem, n api.Narrowed) bool {
	list := slots.List(p.Grid)
	if len(n.Cells) != len(p.Given) || len(n.Words) != len(list) {
		return false
	}
	for i, seats := range seatsOf(list, len(p.Given)) {
		if len(seats) == 0 && n.Cells[i] != 0 || n.Cells[i]&^p.Given[i] != 0 {
			return false
		}
		for letter := range 64 {
			if n.Cells[i]&mask(letter) == 0 {
				continue
			}
			for _, seat := range seats {
				if !isBrought(p, n.Words[seat.Slot], seat.At, letter) {
					return false
				}
			}
		}
	}
	for s, slot := range list {
		last := -1
		for _, w := range n.Words[s] {
			if w <= last || w >= len(p.Words) || !stands(p.Words[w], slot, n.Cells) {
				return false
			}
			last = w
		}
	}
	return true
}

// wantNarrow lets go one letter or one word at a time that may not stay, from all
// that is given, till there is none.
func wantNarrow(p api.Problem) api.Narrowed {
	list := slots.List(p.Grid)
	seats := seatsOf(list, len(p.Given))
	n := api.Narrowed{Cells: make([]uint64, len(p.Given)), Words: make([][]int, len(list))}
	for i := range n.Cells {
		if len(seats[i]) > 0 {
			n.Cells[i] = p.Given[i]
		}
	}
	for s, slot := range list {
		for w := range p.Words {
			if len(p.Words[w]) == len(slot.Cells) {
				n.Words[s] = append(n.Words[s], w)
			}
		}
	}
	for letGo(p, list, seats, n) {
	}
	n.OK = true
	for s := range list {
		n.OK = n.OK && len(n.Words[s]) > 0
	}
	for i := range n.Cells {
		n.OK = n.OK && (len(seats[i]) == 0 || n.Cells[i] != 0)
	}
	return n
}

// letGo goes through all once; false, if all may stay.
func letGo(p api.Problem, list []api.Slot, seats [][]api.Seat, n api.Narrowed) bool {
	changed := false
	for i := range n.Cells {
		for letter := range 64 {
			if n.Cells[i]&mask(letter) == 0 {
				continue
			}
			for _, seat := range seats[i] {
				if !isBrought(p, n.Words[seat.Slot], seat.At, letter) {
					n.Cells[i] &^= mask(letter)
					changed = true
				}
			}
		}
	}
	for s, slot := range list {
		stay := []int{}
		for _, w := range n.Words[s] {
			if stands(p.Words[w], slot, n.Cells) {
				stay = append(stay, w)
			}
		}
		changed = changed || len(stay) < len(n.Words[s])
		n.Words[s] = stay
	}
	return changed
}

// compare holds Narrow of a right problem against the chapter, and answers it.
func compare(t *testing.T, p api.Problem) api.Narrowed {
	t.Helper()
	n, e := narrow.Narrow(p)
	if want := wantNarrow(p); e != api.OK || !isSame(n, want) {
		t.Fatalf("Narrow(%v) is %v, %v, and not %v", p, n, e, want)
	}
	if !holds(p, n) {
		t.Fatalf("Narrow(%v) is no choice that holds: %v", p, n)
	}
	if got := narrow.Check(p); got != api.OK {
		t.Fatalf("Check(%v) is %v", p, got)
	}
	return n
}

// P12.1: the chapter's examples, and those of the whole that tell of narrowing.
func TestExamples(t *testing.T) {
	g := blank(2, 2)
	n := compare(t, given(g, []int{0, 1}, []int{1, 0}, []int{0, 2}))
	want := api.Narrowed{Cells: []uint64{3, 3, 3, 7}, Words: [][]int{{0, 1}, {0, 1}, {0, 1, 2}, {0, 1, 2}}, OK: true}
	if !isSame(n, want) {
		t.Error("three words", n)
	}
	n = compare(t, given(g, []int{0, 1}, []int{2, 3}))
	if !isSame(n, api.Narrowed{Cells: make([]uint64, 4), Words: make([][]int, 4)}) {
		t.Error("two words that don't cross", n)
	}
	n = compare(t, given(g, []int{0, 1}, []int{1, 0}))
	if !isSame(n, api.Narrowed{Cells: []uint64{3, 3, 3, 3}, Words: slices.Repeat([][]int{{0, 1}}, 4), OK: true}) {
		t.Error("two words that cross", n)
	}
	// Narrowing leaves all, though there is no filling.
	n = compare(t, given(blank(2, 3), wordsOf("001", "010", "100", "01", "10")...))
	three, two := []int{0, 1, 2}, []int{3, 4}
	if !isSame(n, api.Narrowed{Cells: slices.Repeat([]uint64{3}, 6), Words: [][]int{three, two, two, two, three}, OK: true}) {
		t.Error("words of two lengths", n)
	}
}

// P12.1: a problem without a slot has every slot's word, and no cell has a letter.
func TestNoSlot(t *testing.T) {
	for _, g := range []api.Grid{blank(1, 1), sketched("#"), sketched(". #", "", "# ."), sketched(".+.", "+ +", ".+."), sketched("# # #", "", "# # #")} {
		for _, words := range [][][]int{nil, {}, {{1}}, {{0, 1}, {2}}} {
			p := given(g, words...)
			n, e := narrow.Narrow(p)
			if e != api.OK || !n.OK || len(n.Words) != 0 || !slices.Equal(n.Cells, make([]uint64, len(p.Given))) {
				t.Error(p, n, e)
			}
			clear(p.Given)
			if n, e := narrow.Narrow(p); e != api.OK || !n.OK || !slices.Equal(n.Cells, p.Given) {
				t.Error("nothing given", p, n, e)
			}
		}
	}
}

// wordOf has n cells of one letter.
func wordOf(n, letter int) []int { return slices.Repeat([]int{letter}, n) }

// P12.1: what may be handed in and what may not, at each limit.
func TestCheckAtLimits(t *testing.T) {
	g := blank(2, 2)
	right := [][][]int{nil, {}, {{0}}, {{63}}, {{0, 63}, {5}}, {wordOf(31, 1)}, {wordOf(32, 63)}, {{1, 2}, {1, 2}}, slices.Repeat([][]int{{7}}, 999), slices.Repeat([][]int{{7, 8}}, 1000), slices.Repeat([][]int{wordOf(32, 0)}, 1000)}
	for _, words := range right {
		if e := narrow.Check(given(g, words...)); e != api.OK {
			t.Error(len(words), e)
		}
		compare(t, given(g, words...))
	}
	wrong := []struct {
		words [][]int
		want  api.Errno
	}{
		{[][]int{{}}, api.ErrNumber},
		{[][]int{nil}, api.ErrNumber},
		{[][]int{{1, 2}, {}}, api.ErrNumber},
		{[][]int{{}, {1, 2}}, api.ErrNumber},
		{[][]int{wordOf(33, 0)}, api.ErrNumber},
		{[][]int{wordOf(64, 0)}, api.ErrNumber},
		{[][]int{wordOf(1<<16, 0)}, api.ErrNumber},
		{[][]int{{0, 1}, {0, 1}, {1, 64}}, api.ErrNumber},
		{[][]int{{-1, 0}}, api.ErrNumber},
		{append(slices.Repeat([][]int{{7}}, 999), nil), api.ErrNumber},
		{slices.Repeat([][]int{{7}}, 1001), api.ErrWords},
		{slices.Repeat([][]int{{7}}, 5000), api.ErrWords},
		{make([][]int, 1001), api.ErrWords},
		{append(slices.Repeat([][]int{{7}}, 1000), []int{99}), api.ErrWords},
	}
	for _, w := range wrong {
		refused(t, given(g, w.words...), w.want)
	}
	for _, letter := range noLetters {
		refused(t, given(g, []int{letter}), api.ErrNumber)
		refused(t, given(g, []int{0, 1}, []int{0, letter, 1}), api.ErrNumber)
		refused(t, given(g, append(wordOf(31, 0), letter)), api.ErrNumber)
	}
}

// refused tells if the calls don't answer this error, with nothing beside it.
func refused(t *testing.T, p api.Problem, want api.Errno) {
	t.Helper()
	if e := narrow.Check(p); e != want {
		t.Errorf("Check is %v, and not %v", e, want)
	}
	n, e := narrow.Narrow(p)
	if e != want || n.Cells != nil || n.Words != nil || n.OK {
		t.Errorf("Narrow is %v, %v, and not %v", n, e, want)
	}
}

// P12.1: so many masks as the grid has cells, blocks too.
func TestGivenSize(t *testing.T) {
	for _, g := range []api.Grid{blank(1, 1), blank(1, 16), blank(16, 1), blank(3, 4), blank(16, 16), sketched(". # .", "", "# # .")} {
		size := g.H * g.W
		for _, n := range []int{0, 1, size - 1, size, size + 1, 2 * size, g.H, g.W, 256, 257} {
			p := given(g, []int{0, 1})
			p.Given = make([]uint64, n)
			if n == size {
				compare(t, p)
			} else {
				refused(t, p, api.ErrGiven)
			}
		}
		p := given(g, []int{0, 1})
		p.Given = nil
		refused(t, p, api.ErrGiven)
	}
}

// P12.1: a grid that isn't right has grid.Check's error.
func TestWrongGrids(t *testing.T) {
	refused(t, api.Problem{}, api.ErrSide)
	for _, h := range noSides {
		for _, w := range append(noSides, 1, 2, 16) {
			for _, g := range []api.Grid{{H: h, W: w}, {H: w, W: h}} {
				refused(t, api.Problem{Grid: g}, api.ErrSide)
				g.Block, g.Right, g.Below = make([]bool, 4), make([]bool, 4), make([]bool, 4)
				refused(t, api.Problem{Grid: g, Given: make([]uint64, 4)}, api.ErrSide)
			}
		}
	}
	spoilers := []struct {
		spoil func(*api.Grid)
		want  api.Errno
	}{
		{func(g *api.Grid) { g.Block = nil }, api.ErrSize},
		{func(g *api.Grid) { g.Block = g.Block[:5] }, api.ErrSize},
		{func(g *api.Grid) { g.Right = append(g.Right, false) }, api.ErrSize},
		{func(g *api.Grid) { g.Below = g.Below[:0] }, api.ErrSize},
		{func(g *api.Grid) { g.H, g.W = 3, 3 }, api.ErrSize},
		{func(g *api.Grid) { g.Right[2] = true }, api.ErrBar},
		{func(g *api.Grid) { g.Below[4] = true }, api.ErrBar},
		{func(g *api.Grid) { g.Block[1], g.Right[0] = true, true }, api.ErrBar},
		{func(g *api.Grid) { g.Block[0], g.Below[0] = true, true }, api.ErrBar},
	}
	for _, s := range spoilers {
		g := blank(2, 3)
		s.spoil(&g)
		refused(t, api.Problem{Grid: g, Words: [][]int{{0, 1}}, Given: make([]uint64, 6)}, s.want)
	}
}

// P12.1: of several faults the first of the chapter's order is told.
func TestSeveralFaults(t *testing.T) {
	faults := []struct {
		spoil func(*api.Problem)
		want  api.Errno
	}{
		{func(p *api.Problem) { p.Grid.H = 0 }, api.ErrSide},
		{func(p *api.Problem) { p.Grid.Below = p.Grid.Below[:3] }, api.ErrSize},
		{func(p *api.Problem) { p.Grid.Right[1] = true }, api.ErrBar},
		{func(p *api.Problem) { p.Words = append(p.Words, slices.Repeat([][]int{{0, 1}}, 1000)...) }, api.ErrWords},
		{func(p *api.Problem) { p.Words[0] = []int{64} }, api.ErrNumber},
		{func(p *api.Problem) { p.Given = p.Given[:3] }, api.ErrGiven},
	}
	for set := 1; set < 1<<len(faults); set++ {
		p := clone(given(blank(2, 2), []int{0, 1}))
		want := api.OK
		for n := len(faults) - 1; n >= 0; n-- {
			if set>>n&1 == 1 {
				want = faults[n].want
			}
		}
		for n, fault := range faults {
			if set>>n&1 == 1 {
				fault.spoil(&p)
			}
		}
		refused(t, p, want)
	}
}

// P12.1: what stands in Given at a block or at a cell without a seat counts for nothing.
func TestNoSeats(t *testing.T) {
	// The cells 0, 1 and 5, 8 are slots; 2 and 6 are without a seat, the others blocks.
	g := sketched(". .+.", "    +", "# # .", "", ". # .")
	words := [][]int{{0, 1}, {1, 0}, {2, 2}}
	for _, strange := range []uint64{0, 1, 2, 3, 1 << 63, every} {
		p := given(g, words...)
		for _, i := range []int{2, 3, 4, 6, 7} {
			p.Given[i] = strange
		}
		p.Given[0], p.Given[8] = 3, 6
		n := compare(t, p)
		want := api.Narrowed{Cells: []uint64{3, 3, 0, 0, 0, 5, 0, 0, 6}, Words: [][]int{{0, 1}, {0, 2}}, OK: true}
		if !isSame(n, want) {
			t.Errorf("with %b: %v", strange, n)
		}
	}
	l := lots(3)
	for range 300 {
		p := problemByLot(&l)
		across, down := slots.Seats(p.Grid)
		q := clone(p)
		for i := range q.Given {
			if across[i].Slot < 0 && down[i].Slot < 0 {
				q.Given[i] = uint64(l.below(1<<31)) << l.below(34)
			}
		}
		a, b := compare(t, p), compare(t, q)
		if !isSame(a, b) {
			t.Fatal(p, a, b)
		}
	}
}

// P12.1: words that suit no slot stand in no list, whatever is given; letters that no word has stay in no mask.
func TestStrangeWords(t *testing.T) {
	n := compare(t, given(blank(1, 3), []int{0}, []int{0, 1}, []int{0, 1, 2}, wordOf(16, 3), wordOf(32, 3), []int{0, 1, 2, 3}, []int{63, 0, 62}))
	if !isSame(n, api.Narrowed{Cells: []uint64{1 | 1<<63, 3, 4 | 1<<62}, Words: [][]int{{2, 6}}, OK: true}) {
		t.Error(n)
	}
	// A word of one cell suits none, though cells of all kinds are there.
	n = compare(t, given(sketched(". # .", "", ". # #"), []int{5}, []int{1, 2}))
	if !isSame(n, api.Narrowed{Cells: []uint64{2, 0, 0, 4, 0, 0}, Words: [][]int{{1}}, OK: true}) {
		t.Error(n)
	}
	n = compare(t, given(blank(1, 2), []int{5}, []int{1, 2, 3}))
	if !isSame(n, api.Narrowed{Cells: []uint64{0, 0}, Words: [][]int{{}}}) {
		t.Error("none suits", n)
	}
	for size := 2; size <= 16; size++ {
		words := [][]int{}
		for k := range 32 {
			words = append(words, wordOf(32-k, k))
		}
		for _, g := range []api.Grid{blank(1, size), blank(size, 1)} {
			n := compare(t, given(g, words...))
			want := api.Narrowed{Cells: slices.Repeat([]uint64{1 << (32 - size)}, size), Words: [][]int{{32 - size}}, OK: true}
			if !isSame(n, want) {
				t.Error(size, n)
			}
		}
	}
}

// P12.1: words that stand twice are both in the lists, each by its number.
func TestTwice(t *testing.T) {
	p := given(blank(2, 2), []int{0, 1}, []int{0, 1}, []int{1, 0}, []int{5, 5}, []int{0, 1}, []int{1, 0})
	n := compare(t, p)
	if !isSame(n, api.Narrowed{Cells: slices.Repeat([]uint64{35}, 4), Words: slices.Repeat([][]int{{0, 1, 2, 3, 4, 5}}, 4), OK: true}) {
		t.Error(n)
	}
	p.Given[3] = 3
	n = compare(t, p)
	if !isSame(n, api.Narrowed{Cells: slices.Repeat([]uint64{3}, 4), Words: slices.Repeat([][]int{{0, 1, 2, 4, 5}}, 4), OK: true}) {
		t.Error(n)
	}
	thousand := slices.Repeat([][]int{{0, 1}, {1, 0}}, 500)
	n = compare(t, given(blank(2, 2), thousand...))
	for _, numbers := range n.Words {
		if len(numbers) != 1000 || numbers[0] != 0 || numbers[999] != 999 || !n.OK {
			t.Error(len(numbers), n.OK)
		}
	}
}

// P12.1: letters at both ends of a mask, and masks with numbers that no word has.
func TestLettersAtEnds(t *testing.T) {
	for letter := range 64 {
		other := 63 - letter
		p := given(blank(2, 2), []int{letter, other}, []int{other, letter})
		n := compare(t, p)
		if !isSame(n, api.Narrowed{Cells: slices.Repeat([]uint64{mask(letter, other)}, 4), Words: slices.Repeat([][]int{{0, 1}}, 4), OK: true}) {
			t.Error(letter, n)
		}
		p.Given[2] &^= mask(letter)
		n = compare(t, p)
		if !isSame(n, api.Narrowed{Cells: []uint64{mask(letter), mask(other), mask(other), mask(letter)}, Words: [][]int{{0}, {0}, {1}, {1}}, OK: true}) {
			t.Error(letter, n)
		}
		p.Given[1] &^= mask(other)
		n = compare(t, p)
		if !isSame(n, api.Narrowed{Cells: make([]uint64, 4), Words: make([][]int, 4)}) {
			t.Error(letter, n)
		}
	}
}

// P12.1: a part of which nothing stays says nothing of another, but that not all is OK.
func TestParts(t *testing.T) {
	g := sketched(". .+. .", "", ". .+. .")
	p := given(g, []int{0, 1}, []int{1, 0}, []int{2, 2})
	p.Given[2], p.Given[7] = mask(0), mask(2)
	n := compare(t, p)
	all, none := []int{0, 1, 2}, []int{}
	want := api.Narrowed{Cells: []uint64{7, 7, 0, 0, 7, 7, 0, 0}, Words: [][]int{all, all, all, none, none, none, all, none}}
	if !isSame(n, want) {
		t.Error(n)
	}
	// A slot without a crossing that has no word.
	p = given(sketched(". .", "", "# .", "", "# .", "", "# #", "", ". ."), []int{0, 1})
	n = compare(t, p)
	if !isSame(n, api.Narrowed{Cells: []uint64{0, 0, 0, 0, 0, 0, 0, 0, 1, 2}, Words: [][]int{{}, {}, {0}}}) {
		t.Error(n)
	}
}

// P12.1: with no word at all nothing stays where there is a slot.
func TestNoWord(t *testing.T) {
	for _, g := range []api.Grid{blank(1, 2), blank(2, 1), blank(2, 2), blank(16, 16), sketched(". . #", "", "# # .")} {
		n := compare(t, given(g))
		if n.OK || len(n.Words) != len(slots.List(g)) || !slices.Equal(n.Cells, make([]uint64, len(g.Block))) {
			t.Error(n)
		}
		p := given(g, allWords(2, 3)...)
		clear(p.Given)
		n = compare(t, p)
		if n.OK || slices.ContainsFunc(n.Words, func(numbers []int) bool { return len(numbers) > 0 }) {
			t.Error("nothing given", n)
		}
	}
}

// P12.1: problems by lot.
func TestByLot(t *testing.T) {
	l := lots(1)
	kept, lost, mixed := 0, 0, 0
	for range 6000 {
		p := problemByLot(&l)
		n := compare(t, p)
		some := slices.ContainsFunc(n.Words, func(numbers []int) bool { return len(numbers) > 0 })
		switch {
		case n.OK && len(n.Words) > 0:
			kept++
		case some:
			mixed++
		case len(n.Words) > 0:
			lost++
		}
	}
	if kept < 300 || lost < 300 || mixed < 100 {
		t.Error("problems of one kind alone", kept, lost, mixed)
	}
}

// greatest is the union of all choices that hold: all masks of letters below k are tried
// with the greatest lists that they let, as greater lists bring no fewer letters.
func greatest(p api.Problem, k int) api.Narrowed {
	list := slots.List(p.Grid)
	union := api.Narrowed{Cells: make([]uint64, len(p.Given)), Words: make([][]int, len(list)), OK: true}
	for choice := range 1 << (k * len(p.Given)) {
		n := api.Narrowed{Cells: make([]uint64, len(p.Given)), Words: make([][]int, len(list))}
		for i := range n.Cells {
			n.Cells[i] = uint64(choice>>(k*i)) & (1<<k - 1)
		}
		for s, slot := range list {
			for w := range p.Words {
				if stands(p.Words[w], slot, n.Cells) {
					n.Words[s] = append(n.Words[s], w)
				}
			}
		}
		if !holds(p, n) {
			continue
		}
		for i := range n.Cells {
			union.Cells[i] |= n.Cells[i]
		}
		for s := range n.Words {
			union.Words[s] = append(union.Words[s], n.Words[s]...)
		}
	}
	for s := range union.Words {
		slices.Sort(union.Words[s])
		union.Words[s] = slices.Compact(union.Words[s])
		union.OK = union.OK && len(union.Words[s]) > 0
	}
	return union
}

// P12.1: what is answered is the greatest of all choices that hold, each of which is tried.
func TestGreatest(t *testing.T) {
	l := lots(2)
	same := func(p api.Problem, k int) {
		t.Helper()
		n, e := narrow.Narrow(p)
		if want := greatest(p, k); e != api.OK || !isSame(n, want) {
			t.Fatalf("Narrow(%v) is %v, %v, and not %v", p, n, e, want)
		}
	}
	// All lists of words of two letters, or of three drawn ones.
	for set := range 1 << 4 {
		words := [][]int{}
		for n, w := range allWords(2, 2) {
			if set>>n&1 == 1 {
				words = append(words, w)
			}
		}
		for masks := range 1 << 8 {
			p := given(blank(2, 2), words...)
			for i := range p.Given {
				p.Given[i] = uint64(masks >> (2 * i) & 3)
			}
			same(p, 2)
		}
	}
	for range 40 {
		p := given(blank(2, 2))
		for _, w := range allWords(2, 3) {
			if l.below(3) > 0 {
				p.Words = append(p.Words, w)
			}
		}
		for i := range p.Given {
			p.Given[i] = uint64(1 + l.below(7) | l.below(2)*7)
		}
		same(p, 3)
	}
	for range 150 {
		g := byLot(&l, 2, 3, 10, 15)
		if l.below(2) == 0 {
			g = byLot(&l, 3, 2, 10, 15)
		}
		p := given(g)
		for range 3 + l.below(8) {
			p.Words = append(p.Words, wordByLot(&l, 2+l.below(2), 2))
		}
		for i := range p.Given {
			p.Given[i] = uint64(1+l.below(3)) | uint64(l.below(2)*3)
		}
		same(p, 2)
	}
}

// P12.1: a letter given at one place of a long chain is told along all of it, to both sides.
func TestChains(t *testing.T) {
	// A word's second letter is its first one, or 1 more.
	stairs := blank(16, 16)
	for i := range stairs.Block {
		r, c := i/16, i%16
		stairs.Block[i] = c != r && c != r+1
	}
	for k := 2; k <= 64; k++ {
		words := [][]int{}
		for letter := range k {
			words = append(words, []int{letter, letter}, []int{letter, (letter + 1) % k})
		}
		for at := range 256 {
			if stairs.Block[at] || at%5 > 1 && at < 240 {
				continue
			}
			p := given(stairs, words...)
			p.Given[at] = mask(k / 2)
			if n := compare(t, p); !n.OK {
				t.Fatal(k, at, n)
			}
		}
	}
	// Each word begins with another letter: one letter tells its row's and its column's.
	p := given(blank(16, 16))
	for r := range 16 {
		w := make([]int, 16)
		for c := range w {
			w[c] = (r + c) % 16
		}
		p.Words = append(p.Words, w)
	}
	if n := compare(t, p); !n.OK || n.Cells[255] != 65535 {
		t.Error(n)
	}
	p.Given[17] = mask(5)
	n := compare(t, p)
	for i := range 256 {
		if r, c := i/16, i%16; (r == 1 || c == 1) && n.Cells[i] != mask((3+r+c)%16) {
			t.Fatal(i, n)
		}
	}
	p.Given[18] = mask(5)
	if n := compare(t, p); n.OK {
		t.Error(n)
	}
}

// P12.1: the greatest problems.
func TestGreatestProblems(t *testing.T) {
	l := lots(4)
	for _, k := range []int{2, 3, 8, 64} {
		for range 3 {
			p := given(blank(16, 16))
			for range 1000 {
				p.Words = append(p.Words, wordByLot(&l, 16, k))
			}
			narrowTwice(t, p)
			for i := range p.Given {
				p.Given[i] = every &^ mask(l.below(k))
			}
			narrowTwice(t, p)
		}
		g := byLot(&l, 16, 16, 15, 10)
		p := given(g)
		for range 1000 {
			p.Words = append(p.Words, wordByLot(&l, 2+l.below(6), k))
		}
		compare(t, p)
		bars := blank(16, 16)
		for i := range bars.Right {
			bars.Right[i] = i%16%2 == 1 && i%16 < 15
			bars.Below[i] = i/16%2 == 1 && i/16 < 15
		}
		p = given(bars)
		for range 1000 {
			p.Words = append(p.Words, wordByLot(&l, 2, k))
		}
		compare(t, p)
	}
}

// narrowTwice holds the answer against the chapter without the slow oracle.
func narrowTwice(t *testing.T, p api.Problem) {
	t.Helper()
	n, e := narrow.Narrow(p)
	if e != api.OK || !holds(p, n) {
		t.Fatal("a choice that doesn't hold", e)
	}
	q := clone(p)
	q.Given = n.Cells
	if again, _ := narrow.Narrow(q); !isSame(n, again) {
		t.Fatal("narrowed again it is another")
	}
}

// P12.2: the masks that come out, given, come out again, and so do the lists.
func TestNothingMore(t *testing.T) {
	l := lots(5)
	for range 3000 {
		p := problemByLot(&l)
		n, _ := narrow.Narrow(p)
		p.Given = n.Cells
		again, e := narrow.Narrow(p)
		if e != api.OK || !isSame(n, again) {
			t.Fatal(p, n, again, e)
		}
	}
}

// fillings gives each way to give each slot a word, letters agreeing where slots cross: the
// cells' letters (-1 of those without a seat) and the slots' words.
func fillings(p api.Problem, yield func(cells, words []int)) {
	list := slots.List(p.Grid)
	cells, words := slices.Repeat([]int{-1}, len(p.Given)), make([]int, len(list))
	var down func(s int)
	down = func(s int) {
		if s == len(list) {
			yield(cells, words)
			return
		}
		for w := range p.Words {
			if !stands(p.Words[w], list[s], p.Given) {
				continue
			}
			before := slices.Clone(cells)
			agrees := true
			for at, i := range list[s].Cells {
				agrees = agrees && (cells[i] < 0 || cells[i] == p.Words[w][at])
				cells[i] = p.Words[w][at]
			}
			if agrees {
				words[s] = w
				down(s + 1)
			}
			copy(cells, before)
		}
	}
	down(0)
}

// P12.3: where each slot is given a word and they agree, all of that stays. All such ways of small problems.
func TestNothingLost(t *testing.T) {
	l := lots(6)
	ways := 0
	for range 3000 {
		g := byLot(&l, 1+l.below(3), 1+l.below(3), l.below(30), l.below(30))
		p := given(g)
		k := 2 + l.below(2)
		for range l.below(9) {
			p.Words = append(p.Words, wordByLot(&l, 2+l.below(2), k))
		}
		for i := range p.Given {
			p.Given[i] = uint64(l.below(1<<k)) | uint64(1<<l.below(k))
		}
		n := compare(t, p)
		fillings(p, func(cells, words []int) {
			ways++
			if !n.OK {
				t.Fatal("OK is false", p, cells)
			}
			for i, letter := range cells {
				if letter >= 0 && n.Cells[i]&mask(letter) == 0 {
					t.Fatal("a letter is lost", p, cells, n)
				}
			}
			for s, w := range words {
				if !slices.Contains(n.Words[s], w) {
					t.Fatal("a word is lost", p, words, n)
				}
			}
		})
	}
	if ways < 2000 {
		t.Error("few ways", ways)
	}
}

// P12.3: great grids that are filled first, and whose words stand among others.
func TestFilledFirst(t *testing.T) {
	l := lots(7)
	for range 150 {
		g := byLot(&l, 2+l.below(15), 2+l.below(15), l.below(40), l.below(30))
		k := 2 + l.below(63)
		cells := wordByLot(&l, len(g.Block), k)
		p := given(g)
		list := slots.List(g)
		for range 700 {
			p.Words = append(p.Words, wordByLot(&l, 2+l.below(8), k))
		}
		for _, slot := range list {
			w := []int{}
			for _, i := range slot.Cells {
				w = append(w, cells[i])
			}
			p.Words = append(p.Words, w)
		}
		shuffle(&l, p.Words)
		for i := range p.Given {
			p.Given[i] = mask(cells[i]) | uint64(l.below(1<<31))<<l.below(34)
		}
		n, e := narrow.Narrow(p)
		if e != api.OK || !n.OK || !holds(p, n) {
			t.Fatal(p, n, e)
		}
		for s, slot := range list {
			stays := slices.ContainsFunc(n.Words[s], func(w int) bool {
				for at, i := range slot.Cells {
					if p.Words[w][at] != cells[i] || n.Cells[i]&mask(cells[i]) == 0 {
						return false
					}
				}
				return true
			})
			if !stays {
				t.Fatal("a slot's word is lost", s, n)
			}
		}
	}
}

// P12.4: fewer letters given leave no letter and no word that more don't leave.
func TestFewerLetters(t *testing.T) {
	l := lots(8)
	for range 2500 {
		more := problemByLot(&l)
		fewer := clone(more)
		for range 1 + l.below(4) {
			fewer.Given[l.below(len(fewer.Given))] &^= uint64(l.below(64)) << (2 * l.below(4))
		}
		a, b := compare(t, more), compare(t, fewer)
		for i := range a.Cells {
			if b.Cells[i]&^a.Cells[i] != 0 {
				t.Fatal("a letter that more letters don't leave", more, fewer.Given, a, b)
			}
		}
		for s := range a.Words {
			for _, w := range b.Words[s] {
				if !slices.Contains(a.Words[s], w) {
					t.Fatal("a word that more letters don't leave", more, fewer.Given, a, b)
				}
			}
		}
		if b.OK && !a.OK {
			t.Fatal("OK of fewer letters alone", more, fewer.Given)
		}
	}
}

// P12.4: the same words in another order have the same masks, and the same words in the lists.
func TestOtherOrder(t *testing.T) {
	l := lots(9)
	for range 1500 {
		p := problemByLot(&l)
		q := clone(p)
		shuffle(&l, q.Words)
		if l.below(3) == 0 {
			slices.Reverse(q.Words)
		}
		a, b := compare(t, p), compare(t, q)
		if !slices.Equal(a.Cells, b.Cells) || a.OK != b.OK {
			t.Fatal(p, q.Words, a, b)
		}
		for s := range a.Words {
			if !slices.EqualFunc(inOrder(p, a.Words[s]), inOrder(q, b.Words[s]), slices.Equal[[]int]) {
				t.Fatal(p, q.Words, a, b)
			}
		}
		// Words that stand twice change no mask either.
		q.Words = append(q.Words, p.Words...)
		if b := compare(t, q); !slices.Equal(a.Cells, b.Cells) || a.OK != b.OK {
			t.Fatal(q, a, b)
		}
	}
}

// inOrder are the words of these numbers, sorted.
func inOrder(p api.Problem, numbers []int) [][]int {
	words := [][]int{}
	for _, w := range numbers {
		words = append(words, p.Words[w])
	}
	slices.SortFunc(words, slices.Compare)
	return words
}

// P12.1: mirrored along its first diagonal, a problem is narrowed to the mirrored masks.
func TestMirrored(t *testing.T) {
	l := lots(10)
	for range 500 {
		p := problemByLot(&l)
		q := clone(p)
		q.Grid, _ = turn.Turn(p.Grid, 7)
		a := compare(t, p)
		want := make([]uint64, len(a.Cells))
		for i := range p.Given {
			to, _ := turn.Place(p.Grid.H, p.Grid.W, i, 7)
			q.Given[to], want[to] = p.Given[i], a.Cells[i]
		}
		if b := compare(t, q); !slices.Equal(b.Cells, want) || a.OK != b.OK {
			t.Fatal(p, a, b)
		}
	}
}

// roomy has the same items, and room behind them that is written over.
func roomy[T any](list []T, behind T) []T {
	return append(slices.Clone(list), behind, behind, behind)[:len(list)]
}

// isKept tells whether the room that roomy laid is as it was.
func isKept[T comparable](list []T, behind T) bool {
	return slices.Equal(list[:len(list)+3][len(list):], []T{behind, behind, behind})
}

// spoil writes over a list and the room behind it.
func spoil[T any](list []T, with T) {
	list = list[:cap(list)]
	for i := range list {
		list[i] = with
	}
}

// P12.5: what is handed in stays as it is, the room behind its lists too, and is not kept.
func TestHandedIn(t *testing.T) {
	l := lots(11)
	problems := []api.Problem{given(blank(2, 2), []int{0, 1}, []int{1, 0}, []int{0, 2}), given(blank(2, 2), []int{0, 64}), given(blank(2, 2), []int{0, 1}, []int{2, 3})}
	for range 300 {
		problems = append(problems, problemByLot(&l))
	}
	for _, before := range problems {
		p := before
		p.Grid.Block, p.Grid.Right, p.Grid.Below = roomy(p.Grid.Block, true), roomy(p.Grid.Right, true), roomy(p.Grid.Below, true)
		p.Given, p.Words = roomy(p.Given, 99), roomy(p.Words, []int{-9})
		for i := range p.Words {
			p.Words[i] = roomy(p.Words[i], -7)
		}
		want, _ := narrow.Narrow(before)
		narrow.Check(p)
		n, _ := narrow.Narrow(p)
		if !isSameProblem(p, before) || !isSame(n, want) {
			t.Fatal("what was handed in has changed", p, before)
		}
		isRoomKept := isKept(p.Grid.Block, true) && isKept(p.Grid.Right, true) && isKept(p.Grid.Below, true) && isKept(p.Given, 99)
		for i := range p.Words {
			isRoomKept = isRoomKept && isKept(p.Words[i], -7)
		}
		for _, behind := range p.Words[:len(p.Words)+3][len(p.Words):] {
			isRoomKept = isRoomKept && slices.Equal(behind, []int{-9})
		}
		if !isRoomKept {
			t.Fatal("what is behind a list has changed", p)
		}
		for i := range p.Words {
			spoil(p.Words[i], 5)
		}
		spoil(p.Words, []int{64})
		spoil(p.Given, 0)
		spoil(p.Grid.Block, true)
		spoil(p.Grid.Right, true)
		if !isSame(n, want) {
			t.Fatal("what was answered has changed", n, want)
		}
		if again, _ := narrow.Narrow(before); !isSame(again, want) {
			t.Fatal("a problem was kept", again, want)
		}
	}
}

// P12.5: lists that are answered are new memory, each with room of its own.
func TestNewMemory(t *testing.T) {
	l := lots(12)
	for range 300 {
		p := problemByLot(&l)
		before := clone(p)
		n, _ := narrow.Narrow(p)
		other, _ := narrow.Narrow(p)
		want := cloneAnswer(n)
		for s := range n.Words {
			n.Words[s] = append(n.Words[s], 77)
			spoil(n.Words[s], 77)
			if !slices.EqualFunc(n.Words[s+1:], want.Words[s+1:], slices.Equal[[]int]) || !slices.Equal(n.Cells, want.Cells) {
				t.Fatal("two lists share memory", s, n, want)
			}
		}
		n.Cells = append(n.Cells, 77)
		spoil(n.Cells, 77)
		spoil(n.Words, []int{77})
		if !isSame(other, want) || !isSameProblem(p, before) {
			t.Fatal("an answer shares memory", other, want)
		}
		if again, _ := narrow.Narrow(p); !isSame(again, want) {
			t.Fatal("an answer was kept", again, want)
		}
	}
}

// P0.2: a word list as text, as a list, as an automaton, and in a slot is the same words.
func TestWordLists(t *testing.T) {
	a, _, _ := alpha.New([]string{"C", "H", "CH", "A", "L", "É"})
	l := lots(13)
	for range 150 {
		text := ""
		for range l.below(60) {
			for range 1 + l.below(5) {
				text += a.Name(l.below(a.Size()))
			}
			text += fmt.Sprintf(";%d\n", l.below(101))
		}
		x, _, _ := lexicon.Read(a, text)
		var words [][]int
		for i := range x.Len() {
			words = append(words, x.Word(i).Cells)
		}
		nodes, _, _ := dawg.Build(words)
		inSlots := 0
		for size := 2; size <= 16; size++ {
			from, to := x.Span(size)
			for _, g := range []api.Grid{blank(1, size), blank(size, 1)} {
				n := compare(t, given(g, words...))
				if len(n.Words[0]) != to-from || n.OK != (to > from) {
					t.Fatalf("a slot of %d cells has %v of %q", size, n.Words, text)
				}
				for k, w := range n.Words[0] {
					if w != from+k || !dawg.Has(nodes, words[w]) {
						t.Fatalf("a slot of %d cells has the word %d of %q", size, w, text)
					}
				}
				for at, m := range n.Cells {
					if m != x.Letters(size, at) {
						t.Fatalf("the place %d of %d has %b of %q", at, size, m, text)
					}
				}
			}
			inSlots += to - from
		}
		single, behind := x.Span(1)
		if inSlots+behind-single != dawg.Count(nodes) {
			t.Fatalf("%d words in slots, %d in the automaton of %q", inSlots, dawg.Count(nodes), text)
		}
	}
}

// P0, one answer: problems never meet, and what is refused leaves nothing behind.
func TestTwoProblems(t *testing.T) {
	first := given(blank(2, 2), []int{0, 1}, []int{1, 0})
	second := given(blank(2, 3), wordsOf("001", "010", "100", "01", "10")...)
	for range 3 {
		compare(t, first)
		refused(t, given(blank(2, 2), []int{0, 1}, []int{64}), api.ErrNumber)
		compare(t, second)
		refused(t, api.Problem{}, api.ErrSide)
	}
}

// P0: problems whose lists share memory, and grids that no call has answered.
func TestStrangeProblems(t *testing.T) {
	shared := make([]bool, 4)
	letters := []int{0, 1, 0, 1, 1}
	p := api.Problem{Grid: api.Grid{H: 2, W: 2, Block: shared, Right: shared, Below: shared}, Given: []uint64{every, every, every, every}}
	for from := range letters {
		for to := from + 1; to <= len(letters); to++ {
			p.Words = append(p.Words, letters[from:to])
		}
	}
	compare(t, p)
	shared[0] = true
	refused(t, p, api.ErrBar)
	shared[0], shared[3] = false, true
	refused(t, p, api.ErrBar)
	refused(t, api.Problem{Grid: api.Grid{H: 2, W: 2}, Words: make([][]int, 1<<20), Given: make([]uint64, 1<<20)}, api.ErrSize)
	refused(t, api.Problem{Grid: blank(2, 2), Words: make([][]int, 1<<20), Given: make([]uint64, 1<<20)}, api.ErrWords)
	refused(t, api.Problem{Grid: blank(2, 2), Given: make([]uint64, 1<<20)}, api.ErrGiven)
	refused(t, api.Problem{Grid: blank(2, 2), Words: [][]int{make([]int, 1<<20)}}, api.ErrNumber)
}
