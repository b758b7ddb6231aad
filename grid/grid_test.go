package grid_test

import (
	"math"
	"slices"
	"testing"

	"rebus/api"
	"rebus/grid"
)

// far are ints that are no cell's number and no way.
var far = []int{math.MinInt, math.MinInt + 1, -257, 257, 1 << 32, math.MaxInt - 1, math.MaxInt}

// sides are rows or columns, right and wrong; two of them have a product that wraps.
var sides = []int{math.MinInt, math.MinInt + 1, -1 << 32, -16, -1, 0, 1, 2, 3, 15, 16, 17, 18, 256, 1 << 32, math.MaxInt - 1, math.MaxInt}

// made is a grid of h rows and w columns whose lists are read off three bit sets.
func made(h, w int, block, right, below uint64) api.Grid {
	g := api.Grid{H: h, W: w}
	for i := range h * w {
		g.Block = append(g.Block, block>>i&1 == 1)
		g.Right = append(g.Right, right>>i&1 == 1)
		g.Below = append(g.Below, below>>i&1 == 1)
	}
	return g
}

// blank is the grid of open cells, made by hand.
func blank(h, w int) api.Grid {
	return api.Grid{H: h, W: w, Block: make([]bool, h*w), Right: make([]bool, h*w), Below: make([]bool, h*w)}
}

// clone shares no memory with g.
func clone(g api.Grid) api.Grid {
	g.Block, g.Right, g.Below = slices.Clone(g.Block), slices.Clone(g.Right), slices.Clone(g.Below)
	return g
}

// openAt tells whether row r and column c have an open cell, of lists of the right length.
func openAt(g api.Grid, r, c int) bool {
	return 0 <= r && r < g.H && 0 <= c && c < g.W && !g.Block[r*g.W+c]
}

// wantCheck is the chapter's Check, told by rows and columns.
func wantCheck(g api.Grid) api.Errno {
	if g.H < 1 || g.H > 16 || g.W < 1 || g.W > 16 {
		return api.ErrSide
	}
	for _, list := range [][]bool{g.Block, g.Right, g.Below} {
		if len(list) != g.H*g.W {
			return api.ErrSize
		}
	}
	for r := range g.H {
		for c := range g.W {
			here := openAt(g, r, c)
			if g.Right[r*g.W+c] && (!here || !openAt(g, r, c+1)) {
				return api.ErrBar
			}
			if g.Below[r*g.W+c] && (!here || !openAt(g, r+1, c)) {
				return api.ErrBar
			}
		}
	}
	return api.OK
}

// wantStep is the chapter's Step, each way by itself.
func wantStep(g api.Grid, i, way int) (int, bool) {
	if wantCheck(g) != api.OK || i < 0 || i >= g.H*g.W {
		return 0, false
	}
	r, c := i/g.W, i%g.W
	if !openAt(g, r, c) {
		return 0, false
	}
	switch {
	case way == 0 && openAt(g, r, c+1) && !g.Right[i]:
		return i + 1, true
	case way == 1 && openAt(g, r+1, c) && !g.Below[i]:
		return i + g.W, true
	case way == 2 && openAt(g, r, c-1) && !g.Right[i-1]:
		return i - 1, true
	case way == 3 && openAt(g, r-1, c) && !g.Below[i-g.W]:
		return i - g.W, true
	}
	return 0, false
}

// wantParts gives each cell the least number of a cell that steps join to it, by
// handing lesser ones on till all is quiet, and then counts those least ones.
func wantParts(g api.Grid) ([]int, int) {
	if wantCheck(g) != api.OK {
		return nil, 0
	}
	least := make([]int, g.H*g.W)
	for i := range least {
		least[i] = i
	}
	for quiet := false; !quiet; {
		quiet = true
		for i := range least {
			for way := range 4 {
				if j, ok := wantStep(g, i, way); ok && least[j] > least[i] {
					least[j], quiet = least[i], false
				}
			}
		}
	}
	parts, n := make([]int, len(least)), 0
	for i := range parts {
		switch {
		case g.Block[i]:
			parts[i] = -1
		case least[i] == i:
			parts[i] = n
			n++
		default:
			parts[i] = parts[least[i]]
		}
	}
	return parts, n
}

// compare holds every call on g against what the chapter asks.
func compare(t *testing.T, g api.Grid) {
	t.Helper()
	if e := grid.Check(g); e != wantCheck(g) {
		t.Fatalf("Check(%v) = %v, want %v", g, e, wantCheck(g))
	}
	right, count := wantCheck(g) == api.OK, 0
	cells := slices.Clone(far)
	for i := -2; i <= len(g.Block)+1; i++ {
		cells = append(cells, i)
	}
	for _, i := range cells {
		open := right && i >= 0 && i < len(g.Block) && !g.Block[i]
		if open {
			count++
		}
		if grid.Open(g, i) != open {
			t.Fatalf("Open(%v, %d) = %v", g, i, !open)
		}
		compareSteps(t, g, i)
	}
	if n := grid.Count(g); n != count {
		t.Fatalf("Count(%v) = %d, want %d", g, n, count)
	}
	parts, n := grid.Parts(g)
	wantList, want := wantParts(g)
	if n != want || !slices.Equal(parts, wantList) {
		t.Fatalf("Parts(%v) = %v, %d, want %v, %d", g, parts, n, wantList, want)
	}
}

// compareSteps holds the steps from i against what the chapter asks.
func compareSteps(t *testing.T, g api.Grid, i int) {
	t.Helper()
	var near []int
	for way := -2; way <= 6; way++ {
		j, ok := grid.Step(g, i, way)
		want, wantOK := wantStep(g, i, way)
		if j != want || ok != wantOK {
			t.Fatalf("Step(%v, %d, %d) = %d, %v, want %d, %v", g, i, way, j, ok, want, wantOK)
		}
		if wantOK {
			near = append(near, want)
		}
	}
	if list := grid.Near(g, i); !slices.Equal(list, near) {
		t.Fatalf("Near(%v, %d) = %v, want %v", g, i, list, near)
	}
}

// answersNothing asks that the five calls tell nothing of a grid that isn't right.
func answersNothing(t *testing.T, g api.Grid) {
	t.Helper()
	for _, i := range append([]int{-1, 0, 1, 2, 3, 4, 5, 6, 255, 256}, far...) {
		if grid.Open(g, i) {
			t.Errorf("Open(%v, %d)", g, i)
		}
		if near := grid.Near(g, i); len(near) != 0 {
			t.Errorf("Near(%v, %d) = %v", g, i, near)
		}
		for _, way := range append([]int{-1, 0, 1, 2, 3, 4}, far...) {
			if j, ok := grid.Step(g, i, way); j != 0 || ok {
				t.Errorf("Step(%v, %d, %d) = %d, %v", g, i, way, j, ok)
			}
		}
	}
	if n := grid.Count(g); n != 0 {
		t.Errorf("Count(%v) = %d", g, n)
	}
	if parts, n := grid.Parts(g); len(parts) != 0 || n != 0 {
		t.Errorf("Parts(%v) = %v, %d", g, parts, n)
	}
}

// lots draws numbers that are the same in every run.
type lots uint64

func (l *lots) below(n int) int {
	*l = *l*6364136223846793005 + 1442695040888963407
	return int(uint64(*l) >> 33 % uint64(n))
}

// drawn is a right grid: of a hundred cells so many are blocks, of a hundred
// places where a bar may stand so many have one.
func drawn(l *lots, h, w, blocks, bars int) api.Grid {
	g := blank(h, w)
	for i := range g.Block {
		g.Block[i] = l.below(100) < blocks
	}
	for r := range h {
		for c := range w {
			if openAt(g, r, c) && openAt(g, r, c+1) {
				g.Right[r*w+c] = l.below(100) < bars
			}
			if openAt(g, r, c) && openAt(g, r+1, c) {
				g.Below[r*w+c] = l.below(100) < bars
			}
		}
	}
	return g
}

// drawnGrids are right grids of all sides.
func drawnGrids() []api.Grid {
	l := lots(5)
	var list []api.Grid
	for h := 1; h <= 16; h++ {
		for w := 1; w <= 16; w++ {
			for range 2 {
				list = append(list, drawn(&l, h, w, l.below(60), l.below(70)))
			}
		}
	}
	return list
}

// P5.1: the chapter's examples.
func TestExamples(t *testing.T) {
	g, e := grid.Blank(2, 3)
	if e != api.OK || grid.Count(g) != 6 || !slices.Equal(grid.Near(g, 1), []int{2, 4, 0}) {
		t.Error("Blank(2, 3)", g, e)
	}
	if j, ok := grid.Step(g, 0, 3); j != 0 || ok {
		t.Error("Step up from the first row", j, ok)
	}
	if p, n := grid.Parts(g); n != 1 || !slices.Equal(p, []int{0, 0, 0, 0, 0, 0}) {
		t.Error("Parts of one", p, n)
	}
	blocks := clone(g)
	blocks.Block[1], blocks.Block[4] = true, true
	if p, n := grid.Parts(blocks); n != 2 || !slices.Equal(p, []int{0, -1, 1, 0, -1, 1}) {
		t.Error("Parts with blocks", p, n)
	}
	bars := clone(g)
	bars.Right[0], bars.Right[3] = true, true
	if j, ok := grid.Step(bars, 0, 0); j != 0 || ok || !slices.Equal(grid.Near(bars, 0), []int{3}) {
		t.Error("a step through a bar", j, ok)
	}
	if p, n := grid.Parts(bars); n != 2 || !slices.Equal(p, []int{0, 1, 1, 0, 1, 1}) {
		t.Error("Parts with bars", p, n)
	}
	edge := clone(g)
	edge.Right[2] = true
	if e := grid.Check(edge); e != api.ErrBar {
		t.Error("Right[2]", e)
	}
	for _, side := range [][2]int{{0, 3}, {17, 1}} {
		if g, e := grid.Blank(side[0], side[1]); e != api.ErrSide || !grid.Same(g, api.Grid{}) {
			t.Error("Blank", side, g, e)
		}
	}
}

// P5.1: Blank at all pairs of sides, and Check of them with lists of every wrong kind.
func TestSides(t *testing.T) {
	for _, h := range sides {
		for _, w := range sides {
			right := 1 <= h && h <= 16 && 1 <= w && w <= 16
			g, e := grid.Blank(h, w)
			if !right {
				if e != api.ErrSide || g.H != 0 || g.W != 0 || len(g.Block)+len(g.Right)+len(g.Below) != 0 {
					t.Errorf("Blank(%d, %d) = %v, %v", h, w, g, e)
				}
				refusedSides(t, h, w)
				continue
			}
			if e != api.OK || !grid.Same(g, blank(h, w)) || grid.Check(g) != api.OK || grid.Count(g) != h*w {
				t.Errorf("Blank(%d, %d) = %v, %v", h, w, g, e)
			}
		}
	}
}

// refusedSides asks for ErrSide whatever the lists are, those too that would be wrong themselves.
func refusedSides(t *testing.T, h, w int) {
	t.Helper()
	lengths := []int{0, 1, 3, 16, 17, 256, 272}
	if product := h * w; product > 0 && product < 5000 {
		lengths = append(lengths, product)
	}
	for _, n := range lengths {
		g := api.Grid{H: h, W: w, Block: make([]bool, n), Right: make([]bool, n), Below: make([]bool, n)}
		for i := range n {
			g.Block[i], g.Right[i], g.Below[i] = i%2 == 0, i%3 == 0, i%5 == 0
		}
		if e := grid.Check(g); e != api.ErrSide {
			t.Errorf("Check of %d rows of %d, lists of %d: %v", h, w, n, e)
		}
		answersNothing(t, g)
	}
	if e := grid.Check(api.Grid{H: h, W: w}); e != api.ErrSide {
		t.Errorf("Check of %d rows of %d, no lists: %v", h, w, e)
	}
}

// P5.1: each of the three lists too short, too long, nil, one and all of them; a bar besides doesn't change the error.
func TestSizes(t *testing.T) {
	for _, side := range [][2]int{{1, 1}, {1, 6}, {6, 1}, {2, 3}, {16, 16}, {15, 16}} {
		n := side[0] * side[1]
		for _, length := range []int{0, 1, n - 2, n - 1, n + 1, n + 2, 2 * n} {
			if length < 0 || length == n {
				continue
			}
			for which := range 7 {
				g := wrongLists(side[0], side[1], length, which+1)
				for i := range g.Right {
					g.Right[i] = true
				}
				if e := grid.Check(g); e != api.ErrSize {
					t.Errorf("%v, lists %d of length %d: %v", side, which+1, length, e)
				}
				answersNothing(t, g)
			}
		}
		g := blank(side[0], side[1])
		for _, wrong := range []api.Grid{
			{H: g.H, W: g.W},
			{H: g.H, W: g.W, Right: g.Right, Below: g.Below},
			{H: g.H, W: g.W, Block: g.Block, Below: g.Below},
			{H: g.H, W: g.W, Block: g.Block, Right: g.Right},
		} {
			if e := grid.Check(wrong); e != api.ErrSize {
				t.Errorf("%v without a list: %v", side, e)
			}
			answersNothing(t, wrong)
		}
	}
}

// wrongLists has lists of that length in place of those whose bits which has.
func wrongLists(h, w, length, which int) api.Grid {
	g := blank(h, w)
	for k, list := range []*[]bool{&g.Block, &g.Right, &g.Below} {
		if which>>k&1 == 1 {
			*list = make([]bool, length)
		}
	}
	return g
}

// P5.1: a length that fits the sides the other way round, or by another product, is asked of H * W alone.
func TestSizesAreProducts(t *testing.T) {
	g := blank(2, 6)
	for _, side := range [][2]int{{6, 2}, {3, 4}, {1, 12}, {12, 1}} {
		g.H, g.W = side[0], side[1]
		if e := grid.Check(g); e != api.OK {
			t.Error(side, e)
		}
	}
	for _, side := range [][2]int{{2, 5}, {7, 2}, {1, 11}, {13, 1}, {12, 2}, {6, 6}} {
		g.H, g.W = side[0], side[1]
		if e := grid.Check(g); e != api.ErrSize {
			t.Error(side, e)
		}
	}
}

// P5.1: one bar at every place of a grid, alone and with a block at every place.
func TestBars(t *testing.T) {
	for _, side := range [][2]int{{1, 1}, {1, 16}, {16, 1}, {3, 4}, {4, 3}, {16, 16}} {
		h, w := side[0], side[1]
		for i := range h * w {
			g := blank(h, w)
			g.Right[i] = true
			if e := grid.Check(g); (e == api.ErrBar) != (i%w == w-1) || e != wantCheck(g) {
				t.Errorf("%v Right[%d]: %v", side, i, e)
			}
			g.Right[i], g.Below[i] = false, true
			if e := grid.Check(g); (e == api.ErrBar) != (i/w == h-1) || e != wantCheck(g) {
				t.Errorf("%v Below[%d]: %v", side, i, e)
			}
			for b := range h * w {
				barsWithBlock(t, h, w, i, b)
			}
		}
	}
}

// barsWithBlock asks for ErrBar where the cell b is one of the two that the bar at i stands between.
func barsWithBlock(t *testing.T, h, w, i, b int) {
	t.Helper()
	g := blank(h, w)
	g.Block[b], g.Right[i] = true, true
	wrong := i%w == w-1 || b == i || b == i+1
	if e := grid.Check(g); (e == api.ErrBar) != wrong || e != api.OK && e != api.ErrBar {
		t.Errorf("%d rows of %d, Block[%d], Right[%d]: %v", h, w, b, i, e)
	}
	g.Right[i], g.Below[i] = false, true
	wrong = i/w == h-1 || b == i || b == i+w
	if e := grid.Check(g); (e == api.ErrBar) != wrong || e != api.OK && e != api.ErrBar {
		t.Errorf("%d rows of %d, Block[%d], Below[%d]: %v", h, w, b, i, e)
	}
}

// P5.1: a grid with a bar that is wrong tells nothing, wherever the others ask.
func TestWrongBarsTellNothing(t *testing.T) {
	for i := range 6 {
		for b := range 6 {
			for bar := range 2 {
				g := blank(2, 3)
				g.Block[b] = true
				g.Right[i], g.Below[i] = bar == 0, bar == 1
				if wantCheck(g) != api.OK {
					answersNothing(t, g)
				}
			}
		}
	}
	g := blank(16, 16)
	g.Below[255] = true
	answersNothing(t, g)
	answersNothing(t, api.Grid{})
}

// P5.1: of several errors the chapter's first one.
func TestOrderOfErrors(t *testing.T) {
	g := blank(2, 3)
	g.Block[0], g.Right[0], g.Right[2], g.Below[5] = true, true, true, true
	if e := grid.Check(g); e != api.ErrBar {
		t.Error("several bars", e)
	}
	for k, list := range []*[]bool{&g.Block, &g.Right, &g.Below} {
		whole := *list
		*list = whole[:5]
		if e := grid.Check(g); e != api.ErrSize {
			t.Error("a bar and a short list", k, e)
		}
		*list = append(slices.Clone(whole), true)
		if e := grid.Check(g); e != api.ErrSize {
			t.Error("a bar and a long list", k, e)
		}
		*list = whole
	}
	g.Right = g.Right[:3]
	for _, side := range sides {
		if side >= 1 && side <= 16 {
			continue
		}
		g.H, g.W = side, 3
		if e := grid.Check(g); e != api.ErrSide {
			t.Error("rows, a list and a bar", side, e)
		}
		g.H, g.W = 2, side
		if e := grid.Check(g); e != api.ErrSide {
			t.Error("columns, a list and a bar", side, e)
		}
	}
}

// P5.1, P0: all lists of the least grids, right and wrong.
func TestAllLeastGrids(t *testing.T) {
	for _, side := range [][2]int{{1, 1}, {1, 2}, {2, 1}, {1, 3}, {3, 1}, {2, 2}, {1, 4}, {4, 1}} {
		n := side[0] * side[1]
		for bits := range uint64(1) << (3 * n) {
			compare(t, made(side[0], side[1], bits, bits>>n, bits>>(2*n)))
		}
	}
}

// P5.1: all right grids of two rows of three and of three rows of two.
func TestAllOfSixCells(t *testing.T) {
	for _, side := range [][2]int{{2, 3}, {3, 2}} {
		for bits := range uint64(1) << 18 {
			g := made(side[0], side[1], bits, bits>>6, bits>>12)
			want := wantCheck(g)
			if e := grid.Check(g); e != want {
				t.Fatalf("Check(%v) = %v, want %v", g, e, want)
			}
			if want == api.OK {
				compare(t, g)
			}
		}
	}
}

// P5.1: grids of all sides, drawn by lot.
func TestDrawnGrids(t *testing.T) {
	for _, g := range drawnGrids() {
		compare(t, g)
	}
}

// P5.1, P0: ways and cells at the edges of an int.
func TestFarCellsAndWays(t *testing.T) {
	for _, g := range []api.Grid{blank(1, 1), blank(3, 3), blank(16, 16), blank(1, 16), blank(16, 1)} {
		n := g.H * g.W
		for _, i := range append([]int{-1, 0, n - 1, n}, far...) {
			if grid.Open(g, i) != (i == 0 || i == n-1) {
				t.Error("Open", n, i)
			}
			for _, way := range append([]int{-1, 4, 5, 6, 7}, far...) {
				if j, ok := grid.Step(g, i, way); j != 0 || ok {
					t.Error("Step", n, i, way, j, ok)
				}
			}
		}
		for _, i := range append([]int{-1, n}, far...) {
			if near := grid.Near(g, i); len(near) != 0 {
				t.Error("Near", n, i, near)
			}
		}
	}
}

// P5.1: a row's last cell and the next one's first are no neighbours, though their numbers are.
func TestRowsEnd(t *testing.T) {
	g := blank(3, 4)
	for _, i := range []int{3, 7, 11} {
		if j, ok := grid.Step(g, i, 0); j != 0 || ok {
			t.Error("to the right from", i, j, ok)
		}
	}
	for _, i := range []int{0, 4, 8} {
		if j, ok := grid.Step(g, i, 2); j != 0 || ok {
			t.Error("to the left from", i, j, ok)
		}
	}
	if near := grid.Near(g, 5); !slices.Equal(near, []int{6, 9, 4, 1}) {
		t.Error("Near in the middle", near)
	}
	if near := grid.Near(g, 11); !slices.Equal(near, []int{10, 7}) {
		t.Error("Near in the last corner", near)
	}
}

// P5.1, P5.3: grids of blocks alone, of one cell, one row, one column.
func TestNarrowGrids(t *testing.T) {
	for _, side := range [][2]int{{1, 1}, {1, 16}, {16, 1}, {3, 5}, {16, 16}} {
		g := blank(side[0], side[1])
		if p, n := grid.Parts(g); n != 1 || !slices.Equal(p, make([]int, len(g.Block))) {
			t.Error("Parts of open cells", side, p, n)
		}
		for i := range g.Block {
			g.Block[i] = true
		}
		want := slices.Repeat([]int{-1}, len(g.Block))
		if p, n := grid.Parts(g); n != 0 || !slices.Equal(p, want) || grid.Count(g) != 0 || grid.Check(g) != api.OK {
			t.Error("Parts of blocks alone", side, p, n)
		}
		compare(t, g)
	}
	row, column := blank(1, 5), blank(5, 1)
	row.Right[1], column.Below[1] = true, true
	row.Block[3], column.Block[3] = true, true
	for _, g := range []api.Grid{row, column} {
		if p, n := grid.Parts(g); n != 3 || !slices.Equal(p, []int{0, 0, 1, -1, 2}) {
			t.Error("Parts of one line", p, n)
		}
	}
}

// P5.3: parts that bars alone divide: every cell by itself, rings, and one long way round.
func TestBarsDivide(t *testing.T) {
	alone := blank(16, 16)
	for i := range alone.Block {
		alone.Right[i] = i%16 != 15
		alone.Below[i] = i/16 != 15
	}
	want := make([]int, 256)
	for i := range want {
		want[i] = i
	}
	if p, n := grid.Parts(alone); n != 256 || !slices.Equal(p, want) {
		t.Error("every cell by itself", p, n)
	}
	ring := blank(3, 3)
	ring.Right[3], ring.Right[4], ring.Below[1], ring.Below[4] = true, true, true, true
	if p, n := grid.Parts(ring); n != 2 || !slices.Equal(p, []int{0, 0, 0, 0, 1, 0, 0, 0, 0}) {
		t.Error("a ring", p, n)
	}
	snake := blank(16, 16)
	for i := range 240 {
		turn := 15
		if i/16%2 == 1 {
			turn = 0
		}
		snake.Below[i] = i%16 != turn
	}
	if p, n := grid.Parts(snake); n != 1 || !slices.Equal(p, make([]int, 256)) {
		t.Error("one long way", p, n)
	}
	snake.Right[200] = true
	p, n := grid.Parts(snake)
	if n != 2 || p[0] != 0 || p[255] != 1 || p[200] == p[201] {
		t.Error("one long way, cut", p, n)
	}
	compare(t, snake)
}

// P5.3: parts are numbered by their first cells, though a part's first cell is not the leftmost one.
func TestPartsOrder(t *testing.T) {
	g := blank(3, 5)
	for _, i := range []int{1, 3, 6, 8, 13} {
		g.Block[i] = true
	}
	if p, n := grid.Parts(g); n != 2 || !slices.Equal(p, []int{0, -1, 0, -1, 1, 0, -1, 0, -1, 1, 0, 0, 0, -1, 1}) {
		t.Error(p, n)
	}
}

// P5.2: each step has its step back.
func TestStepBack(t *testing.T) {
	for _, g := range drawnGrids() {
		for i := range g.Block {
			for way := range 4 {
				j, ok := grid.Step(g, i, way)
				if !ok {
					continue
				}
				if back, ok := grid.Step(g, j, (way+2)%4); !ok || back != i {
					t.Fatalf("%v: from %d by %d to %d, and back to %d, %v", g, i, way, j, back, ok)
				}
			}
		}
	}
}

// P5.3: Near cells have one part, each part has a cell, and what is of one part is reached.
func TestPartsAreJoined(t *testing.T) {
	for _, g := range drawnGrids() {
		parts, n := grid.Parts(g)
		seen := make([]int, n)
		for i, part := range parts {
			if (part == -1) != g.Block[i] || part < -1 || part >= n {
				t.Fatalf("%v: the cell %d has the part %d", g, i, part)
			}
			if part < 0 {
				continue
			}
			seen[part]++
			for _, j := range grid.Near(g, i) {
				if parts[j] != part {
					t.Fatalf("%v: %d and %d are near", g, i, j)
				}
			}
			if first := slices.Index(parts, part); first == i && len(reached(g, i)) != count(parts, part) {
				t.Fatalf("%v: the part %d isn't what %d reaches", g, part, i)
			}
		}
		if slices.Contains(seen, 0) {
			t.Fatalf("%v: a part has no cell: %v", g, seen)
		}
	}
}

// reached are all cells to which Near leads from i.
func reached(g api.Grid, i int) map[int]bool {
	seen := map[int]bool{i: true}
	for list := []int{i}; len(list) > 0; list = list[1:] {
		for _, j := range grid.Near(g, list[0]) {
			if !seen[j] {
				seen[j] = true
				list = append(list, j)
			}
		}
	}
	return seen
}

func count(list []int, x int) int {
	n := 0
	for _, y := range list {
		if y == x {
			n++
		}
	}
	return n
}

// P5.1: Same of grids that differ in one thing, right or not.
func TestSame(t *testing.T) {
	grids := []api.Grid{
		{},
		{H: -1, W: 5},
		{H: math.MaxInt, W: math.MinInt},
		{H: 1, W: 1},
		{H: 1, W: 2},
		{H: 2, W: 1},
		{H: 2, W: 3, Block: []bool{true}},
		{H: 2, W: 3, Right: []bool{true}},
		{H: 2, W: 3, Below: []bool{true}},
		blank(2, 3), blank(3, 2), blank(1, 6), blank(6, 1), blank(1, 1), blank(16, 16),
		made(2, 3, 0, 0b100100, 0), made(2, 3, 0, 0, 0b111000),
	}
	for i := range 6 {
		for list := range 3 {
			bits := [3]uint64{}
			bits[list] = 1 << i
			grids = append(grids, made(2, 3, bits[0], bits[1], bits[2]))
		}
	}
	for i, a := range grids {
		for j, b := range grids {
			if grid.Same(a, b) != (i == j) || grid.Same(clone(a), b) != (i == j) {
				t.Errorf("Same(%v, %v) = %v", a, b, i != j)
			}
		}
	}
	none := api.Grid{Block: []bool{}, Right: []bool{}, Below: make([]bool, 0, 4)}
	if !grid.Same(none, api.Grid{}) || !grid.Same(api.Grid{}, none) {
		t.Error("an empty list and none differ")
	}
}

// P5.1: Same goes by the lists' elements and lengths, not by where they begin alike.
func TestSameOfLengths(t *testing.T) {
	a := blank(2, 2)
	for k := range 3 {
		for _, n := range []int{0, 1, 3, 5, 8} {
			b := wrongLists(2, 2, n, 1<<k)
			if grid.Same(a, b) || grid.Same(b, a) || !grid.Same(b, clone(b)) {
				t.Error("a list of another length", k, n)
			}
		}
	}
	b := clone(a)
	b.Block = b.Below
	b.Below[3] = true
	if grid.Same(a, b) || !grid.Same(b, b) {
		t.Error("lists that share memory")
	}
}

// roomy is g with lists that have room behind them, and begin behind a place.
func roomy(g api.Grid) (api.Grid, [3][]bool) {
	var whole [3][]bool
	for k, list := range []*[]bool{&g.Block, &g.Right, &g.Below} {
		n := len(*list)
		whole[k] = append(append([]bool{true, false}, *list...), true, false, true, true)
		*list = whole[k][2 : 2+n]
	}
	return g, whole
}

// callAll makes every call on the grid.
func callAll(g api.Grid) {
	grid.Check(g)
	grid.Count(g)
	grid.Parts(g)
	grid.Same(g, g)
	grid.Same(g, clone(g))
	for i := -1; i <= len(g.Block); i++ {
		grid.Open(g, i)
		grid.Near(g, i)
		for way := -1; way <= 4; way++ {
			grid.Step(g, i, way)
		}
	}
}

// P5.4: what is handed in isn't changed, the room behind it neither.
func TestHandedInStays(t *testing.T) {
	l := lots(7)
	grids := []api.Grid{blank(1, 1), drawn(&l, 4, 5, 20, 30), drawn(&l, 16, 16, 20, 30), {H: 2, W: 2}, wrongLists(2, 3, 5, 2)}
	for _, g := range append(grids, made(2, 3, 1, 1, 32)) {
		room, whole := roomy(g)
		was := [3][]bool{slices.Clone(whole[0]), slices.Clone(whole[1]), slices.Clone(whole[2])}
		callAll(room)
		for k := range whole {
			if !slices.Equal(whole[k], was[k]) {
				t.Errorf("%v: the list %d was changed", g, k)
			}
		}
	}
}

// P5.4: what is handed in isn't kept: changed and handed in again, it is the changed one.
func TestHandedInIsNotKept(t *testing.T) {
	g := blank(2, 3)
	callAll(g)
	near := grid.Near(g, 1)
	parts, _ := grid.Parts(g)
	g.Block[1], g.Block[4] = true, true
	if !slices.Equal(near, []int{2, 4, 0}) || !slices.Equal(parts, make([]int, 6)) {
		t.Error("an answer has changed with its argument", near, parts)
	}
	compare(t, g)
	g.Block[1], g.Block[4], g.Right[0] = false, false, true
	compare(t, g)
}

// spoil writes over a list and the room behind it.
func spoil[T any](list []T, with T) {
	list = list[:cap(list)]
	for i := range list {
		list[i] = with
	}
}

// P5.4: answered lists are new memory; writing to one, or to the room behind it, changes no other answer.
func TestAnswersAreNew(t *testing.T) {
	one, _ := grid.Blank(3, 4)
	two, _ := grid.Blank(3, 4)
	spoil(one.Block, true)
	if !grid.Same(two, blank(3, 4)) || slices.Contains(one.Right, true) || slices.Contains(one.Below, true) {
		t.Error("Blank's lists share memory")
	}
	spoil(one.Right, true)
	if !grid.Same(two, blank(3, 4)) || slices.Contains(one.Below, true) {
		t.Error("Blank's lists share memory")
	}
	spoil(one.Below, true)
	if three, _ := grid.Blank(3, 4); !grid.Same(two, blank(3, 4)) || !grid.Same(three, two) {
		t.Error("Blank's lists are kept")
	}
	near, other := grid.Near(two, 5), grid.Near(two, 5)
	spoil(near, 99)
	if want := []int{6, 9, 4, 1}; !slices.Equal(other, want) || !slices.Equal(grid.Near(two, 5), want) {
		t.Error("Near's lists share memory", other)
	}
	parts, also := grid.Parts(two)
	again, _ := grid.Parts(two)
	spoil(parts, 99)
	if third, n := grid.Parts(two); also != 1 || n != 1 || !slices.Equal(again, make([]int, 12)) || !slices.Equal(third, again) {
		t.Error("Parts' lists share memory", again, third)
	}
}
