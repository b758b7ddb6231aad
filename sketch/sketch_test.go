package sketch_test

import (
	"math"
	"regexp"
	"slices"
	"strconv"
	"strings"
	"testing"
	"unicode/utf8"

	"rebus/api"
	"rebus/grid"
	"rebus/sketch"
	"rebus/slots"
	"rebus/turn"
)

// noSides are ints that are no side of a grid; two of them have a product that wraps.
var noSides = []int{math.MinInt, math.MinInt + 1, -1 << 32, -16, -1, 0, 17, 18, 256, 1 << 32, math.MaxInt - 1, math.MaxInt}

// blanks are all of the chapter's blanks that end no line.
var blanks = []string{"\t", "\v", "\f", "\r", " ", "\u00a0"}

// blank is the grid of open cells, made by hand.
func blank(h, w int) api.Grid {
	return api.Grid{H: h, W: w, Block: make([]bool, h*w), Right: make([]bool, h*w), Below: make([]bool, h*w)}
}

// clone shares no memory with g.
func clone(g api.Grid) api.Grid {
	g.Block, g.Right, g.Below = slices.Clone(g.Block), slices.Clone(g.Right), slices.Clone(g.Below)
	return g
}

// isSame tells whether the grids have the same sides and lists.
func isSame(a, b api.Grid) bool {
	return a.H == b.H && a.W == b.W && slices.Equal(a.Block, b.Block) && slices.Equal(a.Right, b.Right) && slices.Equal(a.Below, b.Below)
}

// isZero tells whether nothing of the grid is said.
func isZero(g api.Grid) bool {
	return g.H == 0 && g.W == 0 && len(g.Block)+len(g.Right)+len(g.Below) == 0
}

// allGrids are the right grids of these sides, every one.
func allGrids(h, w int) []api.Grid {
	var list []api.Grid
	for bits := range 1 << (3 * h * w) {
		g := blank(h, w)
		for i := range g.Block {
			g.Block[i], g.Right[i], g.Below[i] = bits>>(3*i)&1 == 1, bits>>(3*i)&2 == 2, bits>>(3*i)&4 == 4
		}
		if hasRightBars(g) {
			list = append(list, g)
		}
	}
	return list
}

// hasRightBars tells whether each bar stands between two open cells.
func hasRightBars(g api.Grid) bool {
	isOpen := func(r, c int) bool { return r < g.H && c < g.W && !g.Block[r*g.W+c] }
	for i := range g.Block {
		r, c := i/g.W, i%g.W
		if g.Right[i] && !(isOpen(r, c) && isOpen(r, c+1)) || g.Below[i] && !(isOpen(r, c) && isOpen(r+1, c)) {
			return false
		}
	}
	return true
}

// lots draws numbers that are the same in every run.
type lots uint64

func (l *lots) below(n int) int {
	*l = *l*6364136223846793005 + 1442695040888963407
	return int(uint64(*l) >> 33 % uint64(n))
}

// of draws one of the list.
func of[T any](l *lots, list ...T) T {
	return list[l.below(len(list))]
}

// byLot is a right grid: of a hundred cells so many are blocks, of a hundred
// places where a bar may stand so many have one.
func byLot(l *lots, h, w, blocks, bars int) api.Grid {
	g := blank(h, w)
	for i := range g.Block {
		g.Block[i] = l.below(100) < blocks
	}
	for i := range g.Block {
		g.Right[i] = i%w < w-1 && !g.Block[i] && !g.Block[i+1] && l.below(100) < bars
		g.Below[i] = i/w < h-1 && !g.Block[i] && !g.Block[i+w] && l.below(100) < bars
	}
	return g
}

// manyGrids are right grids of all sides: blank, of blocks alone, and with blocks and bars by lot.
func manyGrids() []api.Grid {
	l := lots(8)
	var list []api.Grid
	for h := 1; h <= api.MaxSide; h++ {
		for w := 1; w <= api.MaxSide; w++ {
			list = append(list, blank(h, w), byLot(&l, h, w, 100, 0), byLot(&l, h, w, 0, 100),
				byLot(&l, h, w, l.below(60), l.below(70)), byLot(&l, h, w, 10, 30))
		}
	}
	return list
}

// leastGrids are all right grids of few cells.
func leastGrids() []api.Grid {
	var list []api.Grid
	for _, side := range [][2]int{{1, 1}, {1, 2}, {2, 1}, {1, 3}, {3, 1}, {1, 5}, {5, 1}, {2, 2}, {2, 3}, {3, 2}} {
		list = append(list, allGrids(side[0], side[1])...)
	}
	return list
}

// wrongGrids are grids that aren't right, each with its error.
func wrongGrids() map[api.Errno][]api.Grid {
	wrong := map[api.Errno][]api.Grid{}
	add := func(e api.Errno, g api.Grid) { wrong[e] = append(wrong[e], g) }
	for _, side := range noSides {
		for _, g := range []api.Grid{blank(2, 3), blank(1, 1), {}} {
			// With wrong lists too: the side stands first.
			g.Right = append(g.Right, true)
			rows, columns, both := clone(g), clone(g), clone(g)
			rows.H, rows.W = side, 3
			columns.H, columns.W = 2, side
			both.H, both.W = side, side
			add(api.ErrSide, rows)
			add(api.ErrSide, columns)
			add(api.ErrSide, both)
		}
	}
	for _, g := range []api.Grid{{}, blank(17, 1), blank(1, 17), blank(17, 17)} {
		add(api.ErrSide, g)
	}
	for _, n := range []int{0, 1, 5, 7, 12} {
		for k := range 3 {
			// With a wrong bar too: the lists' lengths stand first.
			g := blank(2, 3)
			g.Right[2], g.Below[3] = true, true
			*[]*[]bool{&g.Block, &g.Right, &g.Below}[k] = make([]bool, n)
			add(api.ErrSize, g)
		}
	}
	add(api.ErrSize, api.Grid{H: 16, W: 16})
	for i := range 6 {
		atBlock, rightOf, below := blank(2, 3), blank(2, 3), blank(2, 3)
		atBlock.Block[i], atBlock.Right[i], atBlock.Below[i] = true, true, true
		rightOf.Right[i] = true
		rightOf.Block[min(i+1, 5)] = true
		below.Below[i] = true
		below.Block[min(i+3, 5)] = true
		add(api.ErrBar, atBlock)
		add(api.ErrBar, rightOf)
		add(api.ErrBar, below)
	}
	return wrong
}

// wantPrint is the chapter's Print of a right grid.
func wantPrint(g api.Grid) string {
	text := ""
	for i := range g.Block {
		text += map[bool]string{true: "#", false: "."}[g.Block[i]]
		text += map[bool]string{true: "|"}[g.Right[i]]
		text += map[bool]string{true: "_"}[g.Below[i]]
		text += map[bool]string{true: "\n"}[(i+1)%g.W == 0]
	}
	return text
}

// The chapter's text in expressions: what is let go, the two other signs, a row's beginning, and its cells with their bars.
var (
	letGo    = regexp.MustCompile("[\t-\r \u00a0]")
	squares  = strings.NewReplacer("\u25a0", "#", "\u25a1", ".")
	sign     = regexp.MustCompile(`^[#.|_]$`)
	row      = regexp.MustCompile(`^([#.](\|_?|_\|?)?)*$`)
	cell     = regexp.MustCompile(`[#.][|_]*`)
	cellSign = regexp.MustCompile(`[#.]`)
)

// wantParse is the chapter's Parse: each line is cut down to its signs as far as
// each rune, and what is left is held against the expressions.
func wantParse(text string) (api.Grid, int, api.Errno) {
	if len(text) > 65536 {
		return api.Grid{}, 65536, 1
	}
	var rows [][]string
	begin := 0
	for _, line := range strings.SplitAfter(text, "\n") {
		cells, at, e := wantRow(line, len(rows))
		if e != 0 {
			return api.Grid{}, begin + at, e
		}
		if len(cells) > 0 && len(rows) > 0 && len(cells) != len(rows[0]) {
			return api.Grid{}, begin, 81
		}
		if len(cells) > 0 {
			rows = append(rows, cells)
		}
		begin += len(line)
	}
	if len(rows) == 0 {
		return api.Grid{}, len(text), 82
	}
	g := blank(len(rows), len(rows[0]))
	for i := range g.Block {
		s := rows[i/g.W][i%g.W]
		g.Block[i], g.Right[i], g.Below[i] = s[0] == '#', strings.Contains(s, "|"), strings.Contains(s, "_")
	}
	if !hasRightBars(g) {
		return api.Grid{}, 0, 52
	}
	return g, 0, 0
}

// wantRow are the cells that a line says, each with its bars, or the place in it and the kind of its first fault.
func wantRow(line string, rows int) ([]string, int, api.Errno) {
	read := ""
	for at, r := range line {
		_, width := utf8.DecodeRuneInString(line[at:])
		s := squares.Replace(letGo.ReplaceAllString(line[at:at+width], ""))
		if s == "" {
			continue
		}
		read += s
		switch {
		case r == utf8.RuneError || !sign.MatchString(s):
			return nil, at, 80
		case !row.MatchString(read):
			return nil, at, 83
		case cellSign.MatchString(s) && (rows == 16 || len(cellSign.FindAllString(read, -1)) > 16):
			return nil, at, 50
		}
	}
	return cell.FindAllString(read, -1), 0, 0
}

// compare holds Parse of the text against what the chapter asks, and what it answers against P8.2.
func compare(t *testing.T, text string) {
	t.Helper()
	g, at, e := sketch.Parse(text)
	want, wantAt, wantE := wantParse(text)
	if !isSame(g, want) || at != wantAt || e != wantE {
		t.Fatalf("Parse(%.3000q) = %v, %d, %d, want %v, %d, %d", text, g, at, e, want, wantAt, wantE)
	}
	if e != api.OK && !isZero(g) {
		t.Fatalf("Parse(%.3000q) answers %v beside an error", text, g)
	}
	if e == api.OK {
		compareBack(t, g)
	}
}

// compareBack holds Print of a right grid, and Parse and Print of that, against what the chapter asks.
func compareBack(t *testing.T, g api.Grid) {
	t.Helper()
	text, e := sketch.Print(g)
	if want := wantPrint(g); text != want || e != api.OK {
		t.Fatalf("Print(%v) = %q, %d, want %q", g, text, e, want)
	}
	again, at, e := sketch.Parse(text)
	if !isSame(again, g) || at != 0 || e != api.OK {
		t.Fatalf("Parse(%q) = %v, %d, %d, want %v", text, again, at, e, g)
	}
	if twice, e := sketch.Print(again); twice != text || e != api.OK {
		t.Fatalf("Print of Parse(%q) = %q, %d", text, twice, e)
	}
}

// P8.1: the chapter's examples, and the whole's second one.
func TestExamples(t *testing.T) {
	want := blank(2, 3)
	want.Block[2], want.Right[3] = true, true
	g, at, e := sketch.Parse("..#\n.|..\n")
	if !isSame(g, want) || at != 0 || e != api.OK {
		t.Error(g, at, e)
	}
	if text, e := sketch.Print(g); text != "..#\n.|..\n" || e != api.OK {
		t.Error(text, e)
	}
	want = blank(1, 2)
	want.Block[1] = true
	if g, at, e := sketch.Parse("\u25a1 \u25a0\r\n"); !isSame(g, want) || at != 0 || e != api.OK {
		t.Error(g, at, e)
	}
	want = blank(2, 3)
	want.Block[2] = true
	if g, at, e := sketch.Parse(". . #\n. . ."); !isSame(g, want) || at != 0 || e != api.OK {
		t.Error(g, at, e)
	}
}

// P8.1: texts that are refused, at the edges of each error, and where several errors apply.
func TestRefused(t *testing.T) {
	const row16 = "................\n"
	for _, x := range []struct {
		why, text string
		at        int
		e         api.Errno
	}{
		{"the chapter's", "..#\n.|._.\n", 0, api.ErrBar},
		{"the chapter's", "", 0, api.ErrEmpty},
		{"the chapter's", "\n \n", 3, api.ErrEmpty},
		{"the chapter's", "..\n.\n", 3, api.ErrRow},
		{"the chapter's", "|.", 0, api.ErrBarMark},
		{"the chapter's", ".||", 2, api.ErrBarMark},
		{"the chapter's", ".x", 1, api.ErrMark},

		{"a rune that is no sign", "x", 0, api.ErrMark},
		{"behind a bar", ".|_x", 3, api.ErrMark},
		{"in a later line", "..\n..\n.é", 7, api.ErrMark},
		{"behind wide signs and blanks", "\u25a1\u00a0\u25a0x", 8, api.ErrMark},
		{"in a line without a sign", "..\n x \n..", 4, api.ErrMark},
		{"behind the last line", "..\n\n\x00", 4, api.ErrMark},
		{"a byte that is no rune", "\xff", 0, api.ErrMark},
		{"the byte of a blank, alone", ".\xa0", 1, api.ErrMark},
		{"a block cut off", ".\xe2\x96", 1, api.ErrMark},
		{"a block that goes on with a sign", ".\xe2\x96.", 1, api.ErrMark},
		{"a point written too long", ".\xc0\xae", 1, api.ErrMark},
		{"half a pair", ".\xed\xa0\x80", 1, api.ErrMark},
		{"Bad written out", ".\ufffd", 1, api.ErrMark},
		{"signs that look alike", ".\u2588", 1, api.ErrMark},
		{"a mark of the bytes' order", "\ufeff.", 0, api.ErrMark},
		{"blanks of other kinds", ".\u2003", 1, api.ErrMark},
		{"a line's end of another kind", ".\u0085.", 1, api.ErrMark},
		{"a line's end of another kind", ".\u2028.", 1, api.ErrMark},

		{"a bar below with no cell ahead", "_", 0, api.ErrBarMark},
		{"behind blanks", "\u00a0 |", 3, api.ErrBarMark},
		{"the cell ahead is of another line", "..\n|..", 3, api.ErrBarMark},
		{"the cell ahead is of another line", "..\n_", 3, api.ErrBarMark},
		{"the same one twice", ".__", 2, api.ErrBarMark},
		{"twice with the other between", ".|_|", 3, api.ErrBarMark},
		{"twice with the other between", "._|_", 3, api.ErrBarMark},
		{"twice with blanks between", ".| \t|", 4, api.ErrBarMark},
		{"twice behind a block", "#||", 2, api.ErrBarMark},
		{"behind a later cell", ".|.|.||", 6, api.ErrBarMark},

		{"17 cells", row16[:16] + ".", 16, api.ErrSide},
		{"17 cells with blanks and bars", strings.Repeat(".| ", 16) + "#", 48, api.ErrSide},
		{"17 wide cells", strings.Repeat("\u25a0", 17), 48, api.ErrSide},
		{"17 cells of a second row", row16 + row16[:16] + "#", 33, api.ErrSide},
		{"17 rows", strings.Repeat(".\n", 17), 32, api.ErrSide},
		{"17 rows with blanks", strings.Repeat(".\n\n", 16) + " #", 49, api.ErrSide},
		{"17 rows of 16", strings.Repeat(row16, 17), 16 * 17, api.ErrSide},

		{"a shorter row", "..\n..\n\n \t.\n..", 7, api.ErrRow},
		{"a longer row", "..\n...\n", 3, api.ErrRow},
		{"at the text's end", "..\n.", 3, api.ErrRow},
		{"a first row of one", ".\n..", 2, api.ErrRow},
		{"behind the line's end of two bytes", "..\r\n.\r\n", 4, api.ErrRow},
		{"the 16th row", strings.Repeat("..\n", 15) + ".", 45, api.ErrRow},

		{"blanks alone", " \t\v\f\r\u00a0", 7, api.ErrEmpty},
		{"blank lines alone", "\n\n\r\n", 4, api.ErrEmpty},

		{"a bar at the right edge", ".|", 0, api.ErrBar},
		{"a bar at the lower edge", "._", 0, api.ErrBar},
		{"both", ".|_", 0, api.ErrBar},
		{"a bar at the right edge of a row above", "..|\n..", 0, api.ErrBar},
		{"a bar at a block", "#|.", 0, api.ErrBar},
		{"a bar beside a block", ".|#", 0, api.ErrBar},
		{"a bar below a block", "#_\n.", 0, api.ErrBar},
		{"a bar above a block", "._\n#", 0, api.ErrBar},

		{"ahead of an earlier wrong bar: ErrMark", ".|\nx", 3, api.ErrMark},
		{"ahead of an earlier wrong bar: ErrBarMark", ".|\n|", 3, api.ErrBarMark},
		{"ahead of an earlier wrong bar: ErrRow", ".|\n..", 3, api.ErrRow},
		{"ahead of an earlier wrong bar: ErrSide", strings.Repeat(".|\n", 17), 48, api.ErrSide},
		{"a fault in a row that isn't as long: ErrMark", "..\n.x", 4, api.ErrMark},
		{"a fault in a row that isn't as long: ErrMark", "..\n...x\n", 6, api.ErrMark},
		{"a fault in a row that isn't as long: ErrBarMark", "..\n.__\n", 5, api.ErrBarMark},
		{"a fault in a row that isn't as long: ErrSide", ".\n" + row16[:16] + ".", 18, api.ErrSide},
		{"a row that isn't as long ahead of a fault", "..\n.\nx", 3, api.ErrRow},
		{"a row that isn't as long ahead of a fault", "..\n.\n|", 3, api.ErrRow},
		{"the 16th row, and a 17th", strings.Repeat("..\n", 15) + ".\n..", 45, api.ErrRow},
		{"in the 17th row: ErrMark", strings.Repeat(".\n", 16) + "x.", 32, api.ErrMark},
		{"in the 17th row: ErrBarMark", strings.Repeat(".\n", 16) + "_.", 32, api.ErrBarMark},
		{"behind the 17th cell", row16[:16] + ".x", 16, api.ErrSide},
		{"ahead of the 17th cell", row16[:16] + "||.", 17, api.ErrBarMark},
		{"no row, and no blank", "\n\x80\n", 1, api.ErrMark},
	} {
		g, at, e := sketch.Parse(x.text)
		if !isZero(g) || at != x.at || e != x.e {
			t.Errorf("%s: Parse(%.100q) = %v, %d, %d, want %d, %d", x.why, x.text, g, at, e, x.at, x.e)
		}
		compare(t, x.text)
	}
}

// P8.1: texts that are read, each as the grid that is printed so.
func TestRead(t *testing.T) {
	for _, x := range []struct{ why, text, want string }{
		{"one cell", ".", ".\n"},
		{"one block", "#", "#\n"},
		{"signs of both kinds", "#.\u25a0\u25a1", "#.#.\n"},
		{"both bars", ".|_.\n..", ".|_.\n..\n"},
		{"both bars, in the other order", "._|.\n..", ".|_.\n..\n"},
		{"bars of both kinds behind wide cells", "\u25a1_ | \u25a1\n\u25a1\u25a1", ".|_.\n..\n"},
		{"each cell has its own bars", ".|.|._.\n....", ".|.|._.\n....\n"},
		{"the last line has no end", "..\n..", "..\n..\n"},
		{"lines' ends of two bytes", "..\r\n..\r\n", "..\n..\n"},
		{"a byte 13 within a line", ".\r.\r", "..\n"},
		{"lines without a sign", "\n \n..\n\t\n\r\n..\n\n", "..\n..\n"},
		{"blanks of every kind", " .\t.\v.\f.\r.\u00a0. ", "......\n"},
		{"a row of 16", strings.Repeat(".", 16), strings.Repeat(".", 16) + "\n"},
		{"16 rows", strings.Repeat("#\n", 16), strings.Repeat("#\n", 16)},
		{"16 rows, and lines without a sign", strings.Repeat("#\n\n", 16) + " \n", strings.Repeat("#\n", 16)},
		{"16 rows of 16", strings.Repeat(strings.Repeat(".", 16)+"\n", 16), strings.Repeat(strings.Repeat(".", 16)+"\n", 16)},
	} {
		g, at, e := sketch.Parse(x.text)
		if at != 0 || e != api.OK {
			t.Errorf("%s: Parse(%q) = %v, %d, %d", x.why, x.text, g, at, e)
		}
		if text, e := sketch.Print(g); text != x.want || e != api.OK {
			t.Errorf("%s: %q is read as %q, %d, want %q", x.why, x.text, text, e, x.want)
		}
		compare(t, x.text)
	}
}

// P8.1: texts at the limit of bytes, and past it, where no other error is told.
func TestLongTexts(t *testing.T) {
	for _, begin := range []string{"", "..\n.#", "|", ".||", "..\n.\n", ".|", "\xff"} {
		for _, rest := range []string{" ", "\n", "x", "\xff", ".", "|", "\u25a0"} {
			for n := api.MaxText - 3; n <= api.MaxText+4; n++ {
				text := begin + strings.Repeat(rest, n/len(rest))
				text = text[:min(n, len(text))]
				compare(t, text)
				if len(text) <= api.MaxText {
					continue
				}
				if g, at, e := sketch.Parse(text); !isZero(g) || at != api.MaxText || e != api.ErrText {
					t.Fatalf("%d bytes: %v, %d, %d", len(text), g, at, e)
				}
			}
		}
	}
	g, at, e := sketch.Parse(strings.Repeat("\n", api.MaxText-1) + ".")
	if !isSame(g, blank(1, 1)) || at != 0 || e != api.OK {
		t.Error("a cell at the limit", g, at, e)
	}
	if g, at, e := sketch.Parse(strings.Repeat(" ", api.MaxText)); !isZero(g) || at != api.MaxText || e != api.ErrEmpty {
		t.Error("blanks up to the limit", g, at, e)
	}
	if g, at, e := sketch.Parse(strings.Repeat(".", 1<<20)); !isZero(g) || at != api.MaxText || e != api.ErrText {
		t.Error("far past the limit", g, at, e)
	}
}

// P8.1, P0: every text of at most five of these pieces, which do all that a text can do.
func TestAllShortTexts(t *testing.T) {
	texts := []string{""}
	for range 5 {
		var longer []string
		for _, text := range texts {
			for _, piece := range []string{".", "#", "|", "_", "\n", " ", "\u25a1", "x", "\xff"} {
				longer = append(longer, text+piece)
			}
		}
		for _, text := range longer {
			compare(t, text)
		}
		texts = longer
	}
}

// P8.1, P0: every rune, and every one byte and two, behind a cell.
func TestEveryRune(t *testing.T) {
	compare(t, "")
	for r := range rune(utf8.MaxRune + 1) {
		text := "." + string(r)
		g, at, e := sketch.Parse(text)
		switch {
		case strings.ContainsRune("#.\u25a0\u25a1", r):
			if g.W != 2 || g.Block[1] != strings.ContainsRune("#\u25a0", r) || e != api.OK {
				t.Fatalf("%q: %v, %d, %d", text, g, at, e)
			}
		case r == '|' || r == '_':
			if at != 0 || e != api.ErrBar {
				t.Fatalf("%q: %v, %d, %d", text, g, at, e)
			}
		case strings.ContainsRune("\n"+strings.Join(blanks, ""), r):
			if !isSame(g, blank(1, 1)) || at != 0 || e != api.OK {
				t.Fatalf("%q: %v, %d, %d", text, g, at, e)
			}
		case !isZero(g) || at != 1 || e != api.ErrMark:
			t.Fatalf("%q: %v, %d, %d", text, g, at, e)
		}
	}
	for a := range 256 {
		compare(t, string([]byte{byte(a)}))
		for b := range 256 {
			compare(t, string([]byte{'.', byte(a), byte(b)}))
		}
	}
}

// untidy is the grid's text as a hand might draw it: with blanks, lines of blanks, bars in any order, cells of both
// kinds, lines' ends of both kinds.
func untidy(l *lots, g api.Grid) string {
	var b strings.Builder
	space := func() {
		for l.below(3) == 0 {
			b.WriteString(of(l, blanks...))
		}
	}
	lines := func() {
		for l.below(3) == 0 {
			space()
			b.WriteString(of(l, "\n", "\r\n"))
		}
	}
	lines()
	for i := range g.Block {
		space()
		if g.Block[i] {
			b.WriteString(of(l, "#", "\u25a0"))
		} else {
			b.WriteString(of(l, ".", "\u25a1"))
		}
		bars := []string{map[bool]string{true: "|"}[g.Right[i]], map[bool]string{true: "_"}[g.Below[i]]}
		if l.below(2) == 0 {
			slices.Reverse(bars)
		}
		for _, bar := range bars {
			space()
			b.WriteString(bar)
		}
		space()
		switch {
		case i == len(g.Block)-1 && l.below(2) == 0: // the last line may have no end
		case (i+1)%g.W == 0:
			b.WriteString(of(l, "\n", "\r\n"))
			lines()
		}
	}
	return b.String()
}

// P8.3: blanks, lines of blanks, and the two ways to write a cell change nothing; nor does the bars' order.
func TestUntidyTexts(t *testing.T) {
	l := lots(83)
	for _, g := range append(manyGrids(), leastGrids()...) {
		for range 3 {
			text := untidy(&l, g)
			if again, at, e := sketch.Parse(text); !isSame(again, g) || at != 0 || e != api.OK {
				t.Fatalf("Parse(%q) = %v, %d, %d, want %v", text, again, at, e, g)
			}
		}
	}
}

// P8.3: one blank at any place between the signs changes nothing; a line of blanks between lines neither.
func TestOneBlankMore(t *testing.T) {
	for _, g := range leastGrids() {
		text, _ := sketch.Print(g)
		for at := range len(text) + 1 {
			added := blanks
			if at == 0 || text[at-1] == '\n' {
				added = append([]string{"\n", " \n", "\u00a0\t\r\n"}, blanks...)
			}
			for _, s := range added {
				more := text[:at] + s + text[at:]
				if again, place, e := sketch.Parse(more); !isSame(again, g) || place != 0 || e != api.OK {
					t.Fatalf("Parse(%q) = %v, %d, %d, want %v", more, again, place, e, g)
				}
			}
		}
	}
}

// P8.1, P8.3: texts of drawn grids with one piece put in, written over or taken out at every place.
func TestSpoiltTexts(t *testing.T) {
	l := lots(81)
	for _, g := range manyGrids() {
		if g.H*g.W > 40 && l.below(4) > 0 {
			continue
		}
		text := untidy(&l, g)
		for range 60 {
			at := l.below(len(text) + 1)
			end := min(len(text), at+l.below(3))
			piece := of(&l, "", ".", "#", "|", "_", "\n", "\r\n", "\u25a0", "\u25a1", "x", "\xe2", "\xa0", "\x96", "é", "..", "||")
			compare(t, text[:at]+piece+text[end:])
		}
	}
}

// P8.1, P0: texts by lot, of rows about the limits, and of any bytes.
func TestTextsByLot(t *testing.T) {
	l := lots(801)
	for range 4000 {
		var b strings.Builder
		h, w := 1+l.below(18), 1+l.below(18)
		for range h {
			for range w {
				b.WriteString(of(&l, ".", ".", ".", ".", "#", "\u25a1", ".|", "._", "._|", ".."))
			}
			b.WriteString(of(&l, "\n", "\n", "\n", "\r\n", "\n\n", " \n"))
		}
		compare(t, b.String())
	}
	for range 20000 {
		text := make([]byte, l.below(12))
		for i := range text {
			text[i] = of(&l, '.', '#', '|', '_', '\n', '\r', ' ', 0xe2, 0x96, 0xa0, 0xa1, 0xc2, byte(l.below(256)))
		}
		compare(t, string(text))
	}
}

// P8.1: rows and columns about the limits, with bars or blanks at their ends.
func TestSides(t *testing.T) {
	for h := range 20 {
		for w := range 20 {
			for _, end := range []string{"\n", "\r\n", " \n\n", "|\n", "_\n", "x\n", "||\n"} {
				compare(t, strings.Repeat(strings.Repeat(".", w)+end, h))
				compare(t, strings.Repeat(strings.Repeat("\u25a0", w)+end, h)+".")
			}
		}
	}
}

// P8.2: Parse of Print gives each right grid back.
func TestThereAndBack(t *testing.T) {
	for _, g := range append(manyGrids(), leastGrids()...) {
		compareBack(t, g)
	}
}

// P8.1: Print of a grid that isn't right answers layer 5's error, and no text.
func TestPrintOfWrongGrids(t *testing.T) {
	for e, list := range wrongGrids() {
		for _, g := range list {
			if grid.Check(g) != e {
				t.Fatalf("%v is no grid for this test", g)
			}
			if text, got := sketch.Print(g); text != "" || got != e {
				t.Errorf("Print(%v) = %q, %d, want %d", g, text, got, e)
			}
		}
	}
}

// lengths are how many slots of each length the grid has.
func lengths(g api.Grid) [17]int {
	var n [17]int
	for _, slot := range slots.List(g) {
		n[len(slot.Cells)]++
	}
	return n
}

// laid is where a cell of the grid of h rows of w cells goes by the turn k: mirrored first, then turned by quarters.
func laid(h, w, i, k int) int {
	r, c := i/w, i%w
	if k >= 4 {
		c = w - 1 - c
	}
	for range k % 4 {
		r, c = c, h-1-r
		h, w = w, h
	}
	return r*w + c
}

// P0.1: a drawn grid that is turned is drawn and read as the turned one, and has as many slots, crossings and parts.
func TestTurned(t *testing.T) {
	l := lots(1)
	for _, g := range append(manyGrids(), leastGrids()...) {
		drawn, _, _ := sketch.Parse(untidy(&l, g))
		for k := range 8 {
			turned, e := turn.Turn(drawn, k)
			if e != api.OK {
				t.Fatalf("Turn(%v, %d): %d", drawn, k, e)
			}
			text, _ := sketch.Print(turned)
			again, _, e := sketch.Parse(text)
			if !grid.Same(again, turned) || e != api.OK {
				t.Fatalf("%v by %d: %q, which is %v, %d", g, k, text, again, e)
			}
			for i := range g.Block {
				if g.Block[i] != again.Block[laid(g.H, g.W, i, k)] {
					t.Fatalf("%v by %d: %q, where the cell %d is another", g, k, text, i)
				}
			}
			_, parts := grid.Parts(g)
			if _, n := grid.Parts(again); n != parts || lengths(again) != lengths(g) || slots.Crossings(again) != slots.Crossings(g) {
				t.Fatalf("%v by %d: %d parts, of %d; slots %v, of %v", g, k, n, parts, lengths(again), lengths(g))
			}
		}
	}
}

// turnedSlots are the slots' cells, each turned by k and rising, in order.
func turnedSlots(g api.Grid, k int) [][]int {
	var list [][]int
	for _, slot := range slots.List(g) {
		var cells []int
		for _, i := range slot.Cells {
			cells = append(cells, laid(g.H, g.W, i, k))
		}
		slices.Sort(cells)
		list = append(list, cells)
	}
	slices.SortFunc(list, slices.Compare)
	return list
}

// P0.1: the turns that leave a drawn grid as it is take its slots to its slots.
func TestSymmetries(t *testing.T) {
	for _, x := range []struct {
		text  string
		turns []int
	}{
		{"...\n...", []int{0, 2, 4, 6}},
		{"...\n...\n...", []int{0, 1, 2, 3, 4, 5, 6, 7}},
		{"..#\n...\n#..", []int{0, 2, 5, 7}},
		{"._.._\n.|.|.\n...", []int{0, 4}},
		{".|.#\n...\n#.|.", []int{0, 2}},
		{".|..._\n....\n._...\n...|.", []int{0, 1, 2, 3}},
		{"#..\n...", []int{0}},
	} {
		g, _, e := sketch.Parse(x.text)
		if turns := turn.Symmetries(g); e != api.OK || !slices.Equal(turns, x.turns) {
			t.Errorf("%q: %d, %v, want %v", x.text, e, turns, x.turns)
		}
	}
	for _, g := range append(manyGrids(), leastGrids()...) {
		text, _ := sketch.Print(g)
		drawn, _, _ := sketch.Parse(text)
		for _, k := range turn.Symmetries(drawn) {
			if a, b := turnedSlots(drawn, k), turnedSlots(drawn, 0); !slices.EqualFunc(a, b, slices.Equal) {
				t.Fatalf("%q by %d: %v, want %v", text, k, a, b)
			}
		}
	}
}

// roomy is g with lists that have room behind them, and begin behind a place.
func roomy(g api.Grid) (api.Grid, [][]bool) {
	var whole [][]bool
	for _, list := range []*[]bool{&g.Block, &g.Right, &g.Below} {
		n := len(*list)
		all := append(append([]bool{true, false}, *list...), true, false, true, true)
		whole, *list = append(whole, all), all[2:2+n]
	}
	return g, whole
}

// P8.1: what is handed to Print isn't changed, the room behind its lists neither, be it right or wrong.
func TestHandedInStays(t *testing.T) {
	list := manyGrids()
	for _, wrong := range wrongGrids() {
		list = append(list, wrong...)
	}
	for _, g := range list {
		room, whole := roomy(g)
		_, was := roomy(g)
		sketch.Print(room)
		if !slices.EqualFunc(whole, was, slices.Equal) {
			t.Fatalf("%v was changed: %v, was %v", g, whole, was)
		}
	}
}

// P8.1: what is handed to Print isn't kept: changed and handed in again, it is the changed one, and the text stays.
func TestHandedInIsNotKept(t *testing.T) {
	g := blank(2, 2)
	text, _ := sketch.Print(g)
	g.Block[3], g.Right[0] = true, true
	if again, _ := sketch.Print(g); text != "..\n..\n" || again != ".|.\n.#\n" {
		t.Errorf("%q, then %q", text, again)
	}
	g.Below[1] = true
	if again, e := sketch.Print(g); again != "" || e != api.ErrBar {
		t.Errorf("%q, %d", again, e)
	}
}

// spoil writes over the list and the room behind it.
func spoil(list []bool) {
	list = list[:cap(list)]
	for i := range list {
		list[i] = !list[i]
	}
}

// P8.1: the grid that Parse answers is new memory: what is written to a list of it, or to the room behind it, neither
// its other lists have nor another answer.
func TestAnsweredIsNew(t *testing.T) {
	for _, g := range append(manyGrids(), leastGrids()...) {
		text, _ := sketch.Print(g)
		a, _, _ := sketch.Parse(text)
		b, _, _ := sketch.Parse(text)
		spoil(a.Block)
		if !slices.Equal(a.Right, g.Right) || !slices.Equal(a.Below, g.Below) {
			t.Fatalf("%q: the blocks share memory", text)
		}
		spoil(a.Right)
		if !slices.Equal(a.Below, g.Below) {
			t.Fatalf("%q: the two lists of bars share memory", text)
		}
		spoil(a.Below)
		if !isSame(b, g) {
			t.Fatalf("%q: two answers share memory", text)
		}
		if c, _, e := sketch.Parse(text); !isSame(c, g) || e != api.OK {
			t.Fatalf("%q: changed with an earlier answer: %v, %d", text, c, e)
		}
	}
}

// P8.1, P0: a grid that is changed after it was answered is drawn as it has become, or refused.
func TestAnsweredAndChanged(t *testing.T) {
	g, _, _ := sketch.Parse("...\n...")
	g.Block[1], g.Below[0] = true, true
	if text, e := sketch.Print(g); text != "._#.\n...\n" || e != api.OK {
		t.Errorf("%q, %d", text, e)
	}
	compareBack(t, g)
	g.Right[2] = true
	if text, e := sketch.Print(g); text != "" || e != api.ErrBar {
		t.Errorf("%q, %d", text, e)
	}
	g.Right = g.Right[:5]
	if text, e := sketch.Print(g); text != "" || e != api.ErrSize {
		t.Errorf("%q, %d", text, e)
	}
	g.H = 0
	if text, e := sketch.Print(g); text != "" || e != api.ErrSide {
		t.Errorf("%q, %d", text, e)
	}
}

// P8.1: a text is read alike, whatever was read ahead of it.
func TestOneAnswer(t *testing.T) {
	l := lots(88)
	var texts []string
	for _, g := range manyGrids()[:200] {
		texts = append(texts, untidy(&l, g), untidy(&l, g)+of(&l, "|", "x", ".", "\n_"))
	}
	told := func(text string) string {
		g, at, e := sketch.Parse(text)
		printed, _ := sketch.Print(g)
		return printed + strconv.Itoa(at) + " " + strconv.Itoa(int(e))
	}
	var first []string
	for _, text := range texts {
		first = append(first, told(text))
	}
	for i, text := range slices.Backward(texts) {
		if again := told(text); again != first[i] {
			t.Fatalf("%q: %q, then %q", text, first[i], again)
		}
	}
}
