package turn_test

import (
	"bytes"
	"math"
	"slices"
	"strings"
	"testing"

	"rebus/api"
	"rebus/grid"
	"rebus/turn"
)

// noTurns are ints that are no turns.
var noTurns = []int{math.MinInt, math.MinInt + 1, -1 << 32, -8, -4, -1, 8, 9, 12, 16, 1 << 32, math.MaxInt - 1, math.MaxInt}

// noSides are ints that are no side of a grid; two of them have a product that wraps.
var noSides = []int{math.MinInt, math.MinInt + 1, -1 << 32, -16, -1, 0, 17, 18, 256, 1 << 32, math.MaxInt - 1, math.MaxInt}

// ends are the sides at the limits, and some between.
var ends = [][2]int{{1, 1}, {1, 2}, {2, 1}, {1, 16}, {16, 1}, {2, 2}, {2, 3}, {3, 2}, {3, 3}, {15, 16}, {16, 15}, {16, 16}}

// A picture has a sign for each cell and for each place between cells: . an open
// cell, # a block, + a bar. A bar turns with it as any point does, so no cell
// has to be asked to which side its bar goes.
type picture [][]byte

// drawn is the picture of a right grid.
func drawn(g api.Grid) picture {
	p := empty(2*g.H-1, 2*g.W-1)
	for i := range g.Block {
		r, c := 2*(i/g.W), 2*(i%g.W)
		p[r][c] = '.'
		if g.Block[i] {
			p[r][c] = '#'
		}
		if g.Right[i] {
			p[r][c+1] = '+'
		}
		if g.Below[i] {
			p[r+1][c] = '+'
		}
	}
	return p
}

// empty is a picture of nothing.
func empty(h, w int) picture {
	p := make(picture, h)
	for r := range p {
		p[r] = bytes.Repeat([]byte{' '}, w)
	}
	return p
}

// read is the grid of a picture.
func (p picture) read() api.Grid {
	g := blank((len(p)+1)/2, (len(p[0])+1)/2)
	for i := range g.Block {
		r, c := 2*(i/g.W), 2*(i%g.W)
		g.Block[i] = p[r][c] == '#'
		g.Right[i] = c+1 < len(p[r]) && p[r][c+1] == '+'
		g.Below[i] = r+1 < len(p) && p[r+1][c] == '+'
	}
	return g
}

// laid is the picture turned by k.
func (p picture) laid(k int) picture {
	h, w := len(p), len(p[0])
	out := empty(h, w)
	if k%2 == 1 {
		out = empty(w, h)
	}
	for r := range h {
		for c := range w {
			to := lie(h, w, r, c, k)
			out[to[0]][to[1]] = p[r][c]
		}
	}
	return out
}

// isSame tells whether the pictures are alike.
func (p picture) isSame(q picture) bool {
	return slices.EqualFunc(p, q, bytes.Equal)
}

// lie is where the turn k lays row r and column c of h rows and w columns, each
// of the eight turns worked out by hand.
func lie(h, w, r, c, k int) [2]int {
	switch k {
	case 0:
		return [2]int{r, c}
	case 1:
		return [2]int{c, h - 1 - r}
	case 2:
		return [2]int{h - 1 - r, w - 1 - c}
	case 3:
		return [2]int{w - 1 - c, r}
	case 4:
		return [2]int{r, w - 1 - c}
	case 5:
		return [2]int{w - 1 - c, h - 1 - r}
	case 6:
		return [2]int{h - 1 - r, c}
	}
	return [2]int{c, r}
}

// wantPlace is the number of the cell that lie tells.
func wantPlace(h, w, i, k int) int {
	to := lie(h, w, i/w, i%w, k)
	if k%2 == 1 {
		return to[0]*h + to[1]
	}
	return to[0]*w + to[1]
}

// wantTurn is the grid of the turned picture.
func wantTurn(g api.Grid, k int) api.Grid {
	return drawn(g).laid(k).read()
}

// wantSymmetries are the turns that leave the picture as it is.
func wantSymmetries(g api.Grid) []int {
	var list []int
	p := drawn(g)
	for k := range 8 {
		if p.isSame(p.laid(k)) {
			list = append(list, k)
		}
	}
	return list
}

// key is a text that is less for one grid than for another if Canon's order says
// that the grid is.
func key(g api.Grid) string {
	var b strings.Builder
	b.WriteByte(byte(g.H))
	b.WriteByte(byte(g.W))
	for _, list := range [][]bool{g.Block, g.Right, g.Below} {
		for _, x := range list {
			if x {
				b.WriteByte('0')
			} else {
				b.WriteByte('1')
			}
		}
	}
	return b.String()
}

// wantCanon is the grid of the least key, and the first turn that has it.
func wantCanon(g api.Grid) (api.Grid, int) {
	var keys []string
	for k := range 8 {
		keys = append(keys, key(wantTurn(g, k)))
	}
	at := slices.Index(keys, slices.Min(keys))
	return wantTurn(g, at), at
}

// blank is the grid of open cells, made by hand.
func blank(h, w int) api.Grid {
	return api.Grid{H: h, W: w, Block: make([]bool, h*w), Right: make([]bool, h*w), Below: make([]bool, h*w)}
}

// sketched is the grid of a picture's rows; one that is "" has no bar.
func sketched(rows ...string) api.Grid {
	p := empty(len(rows), len(rows[0]))
	for r, row := range rows {
		copy(p[r], row)
	}
	return p.read()
}

// clone shares no memory with g.
func clone(g api.Grid) api.Grid {
	g.Block, g.Right, g.Below = slices.Clone(g.Block), slices.Clone(g.Right), slices.Clone(g.Below)
	return g
}

// allGrids are the right grids of these sides, every one.
func allGrids(h, w int) []api.Grid {
	var spots [][2]int
	for r := range 2*h - 1 {
		for c := range 2*w - 1 {
			if r%2 == 0 || c%2 == 0 {
				spots = append(spots, [2]int{r, c})
			}
		}
	}
	var list []api.Grid
	for bits := range 1 << len(spots) {
		p := drawn(blank(h, w))
		for n, spot := range spots {
			if bits>>n&1 == 1 {
				p[spot[0]][spot[1]] = "#++"[spot[0]%2+spot[1]%2]
			}
		}
		if g := p.read(); grid.Check(g) == api.OK {
			list = append(list, g)
		}
	}
	return list
}

// lots draws numbers that are the same in every run.
type lots uint64

func (l *lots) below(n int) int {
	*l = *l*6364136223846793005 + 1442695040888963407
	return int(uint64(*l) >> 33 % uint64(n))
}

// byLot is a right grid: of a hundred cells so many are blocks, of a hundred
// places where a bar may stand so many have one.
func byLot(l *lots, h, w, blocks, bars int) api.Grid {
	g := blank(h, w)
	for i := range g.Block {
		g.Block[i] = l.below(100) < blocks
	}
	for i := range g.Block {
		g.Right[i] = i%w < w-1 && !g.Block[i] && !g.Block[i+1] && l.below(100) < bars
		g.Below[i] = i/w < h-1 && !g.Block[i] && !g.Block[i+w] && l.below(100) < bars
	}
	return g
}

// manyGrids are right grids of all sides.
func manyGrids() []api.Grid {
	l := lots(6)
	var list []api.Grid
	for h := 1; h <= 16; h++ {
		for w := 1; w <= 16; w++ {
			list = append(list, byLot(&l, h, w, l.below(60), l.below(70)))
		}
	}
	return list
}

// fewGrids are right grids of the sides at the limits: blank, with blocks, with bars, with both, of blocks alone.
func fewGrids() []api.Grid {
	l := lots(66)
	var list []api.Grid
	for _, side := range ends {
		for _, share := range [][2]int{{0, 0}, {30, 0}, {0, 30}, {20, 40}, {100, 0}, {0, 100}} {
			list = append(list, byLot(&l, side[0], side[1], share[0], share[1]))
		}
	}
	return list
}

// must is Turn of what is right.
func must(t *testing.T, g api.Grid, k int) api.Grid {
	t.Helper()
	q, e := turn.Turn(g, k)
	if e != api.OK {
		t.Fatalf("Turn(%v, %d): %v", g, k, e)
	}
	return q
}

// compare holds every call on a right grid against what the chapter asks.
func compare(t *testing.T, g api.Grid) {
	t.Helper()
	for k := range 8 {
		if q := must(t, g, k); !grid.Same(q, wantTurn(g, k)) {
			t.Fatalf("Turn(%v, %d) = %v, want %v", g, k, q, wantTurn(g, k))
		}
	}
	if list := turn.Symmetries(g); !slices.Equal(list, wantSymmetries(g)) {
		t.Fatalf("Symmetries(%v) = %v, want %v", g, list, wantSymmetries(g))
	}
	c, at, e := turn.Canon(g)
	want, wantAt := wantCanon(g)
	if e != api.OK || at != wantAt || !grid.Same(c, want) {
		t.Fatalf("Canon(%v) = %v, %d, %v, want %v, %d", g, c, at, e, want, wantAt)
	}
}

// P6.1: the chapter's examples.
func TestExamples(t *testing.T) {
	for _, x := range [][5]int{{2, 3, 0, 1, 1}, {2, 3, 0, 4, 2}, {2, 3, 0, 2, 5}} {
		if i, e := turn.Place(x[0], x[1], x[2], x[3]); i != x[4] || e != api.OK {
			t.Error("Place", x, i, e)
		}
	}
	for _, x := range [][3]int{{1, 1, 2}, {4, 1, 5}, {1, 4, 7}} {
		if k := turn.Then(x[0], x[1]); k != x[2] {
			t.Error("Then", x, k)
		}
	}
	if turn.Back(1) != 3 || turn.Back(5) != 5 {
		t.Error("Back", turn.Back(1), turn.Back(5))
	}
	if list := turn.Symmetries(blank(2, 3)); !slices.Equal(list, []int{0, 2, 4, 6}) {
		t.Error("Symmetries of a blank 2 by 3 grid", list)
	}
	if list := turn.Symmetries(blank(3, 3)); !slices.Equal(list, []int{0, 1, 2, 3, 4, 5, 6, 7}) {
		t.Error("Symmetries of a blank square", list)
	}
	if i, e := turn.Place(2, 3, 0, 8); i != 0 || e != api.ErrTurn {
		t.Error("a turn of 8", i, e)
	}
	if i, e := turn.Place(2, 3, 6, 0); i != 0 || e != api.ErrSize {
		t.Error("the cell 6 of 6", i, e)
	}
}

// P6.1: Place of every cell of every grid by every turn; no two cells go to one place.
func TestPlaces(t *testing.T) {
	for h := 1; h <= 16; h++ {
		for w := 1; w <= 16; w++ {
			for k := range 8 {
				taken := make([]bool, h*w)
				for i := range h * w {
					to, e := turn.Place(h, w, i, k)
					if e != api.OK || to != wantPlace(h, w, i, k) {
						t.Fatalf("Place(%d, %d, %d, %d) = %d, %v, want %d", h, w, i, k, to, e, wantPlace(h, w, i, k))
					}
					if taken[to] {
						t.Fatalf("Place(%d, %d, %d, %d) = %d, as of a cell ahead of it", h, w, i, k, to)
					}
					taken[to] = true
				}
			}
		}
	}
}

// P6.1: the turns are made as the chapter's words make them, a quarter behind the other.
func TestPlacesByQuarters(t *testing.T) {
	for _, side := range ends {
		for i := range side[0] * side[1] {
			for k := range 8 {
				h, w, at := side[0], side[1], i
				if k >= 4 {
					at = at/w*w + w - 1 - at%w
				}
				for range k % 4 {
					at = at%w*h + h - 1 - at/w
					h, w = w, h
				}
				if to, e := turn.Place(side[0], side[1], i, k); to != at || e != api.OK {
					t.Errorf("Place(%d, %d, %d, %d) = %d, %v, want %d", side[0], side[1], i, k, to, e, at)
				}
			}
		}
	}
}

// P6.1: the least grid and the edges of the greatest.
func TestPlacesAtTheEdges(t *testing.T) {
	for k, want := range []int{0, 15, 255, 240, 15, 255, 240, 0} {
		if to, e := turn.Place(16, 16, 0, k); to != want || e != api.OK {
			t.Error("the first cell of 16 by 16, by", k, to, e)
		}
		if to, e := turn.Place(16, 16, 255, k); to != 255-want || e != api.OK {
			t.Error("the last cell of 16 by 16, by", k, to, e)
		}
		if to, e := turn.Place(1, 1, 0, k); to != 0 || e != api.OK {
			t.Error("the one cell, by", k, to, e)
		}
	}
	for k, want := range []int{0, 0, 15, 15, 15, 15, 0, 0} {
		if to, e := turn.Place(1, 16, 0, k); to != want || e != api.OK {
			t.Error("the first cell of a row, by", k, to, e)
		}
	}
	for k, want := range []int{0, 15, 15, 0, 0, 15, 15, 0} {
		if to, e := turn.Place(16, 1, 0, k); to != want || e != api.OK {
			t.Error("the first cell of a column, by", k, to, e)
		}
	}
}

// P6.1, P0: Place at turns, sides and cells of every kind; of several errors the chapter's first one.
func TestPlaceErrors(t *testing.T) {
	sides := append([]int{1, 2, 3, 15, 16}, noSides...)
	for _, h := range sides {
		for _, w := range sides {
			product := h * w
			cells := append([]int{-1, 0, 1, product - 1, product, product + 1, 255, 256}, noSides...)
			for _, i := range cells {
				for _, k := range append([]int{0, 1, 2, 3, 4, 5, 6, 7}, noTurns...) {
					placeError(t, h, w, i, k)
				}
			}
		}
	}
}

// placeError asks for the chapter's error, and for no place beside it.
func placeError(t *testing.T, h, w, i, k int) {
	t.Helper()
	to, e := turn.Place(h, w, i, k)
	switch {
	case slices.Contains(noTurns, k):
		if to != 0 || e != api.ErrTurn {
			t.Errorf("Place(%d, %d, %d, %d) = %d, %v, want ErrTurn", h, w, i, k, to, e)
		}
	case slices.Contains(noSides, h) || slices.Contains(noSides, w):
		if to != 0 || e != api.ErrSide {
			t.Errorf("Place(%d, %d, %d, %d) = %d, %v, want ErrSide", h, w, i, k, to, e)
		}
	case i < 0 || i >= h*w:
		if to != 0 || e != api.ErrSize {
			t.Errorf("Place(%d, %d, %d, %d) = %d, %v, want ErrSize", h, w, i, k, to, e)
		}
	default:
		if e != api.OK || to != wantPlace(h, w, i, k) {
			t.Errorf("Place(%d, %d, %d, %d) = %d, %v", h, w, i, k, to, e)
		}
	}
}

// P6.1: Turn, Symmetries and Canon of all right grids of the least sides.
func TestAllLeastGrids(t *testing.T) {
	for _, side := range [][2]int{{1, 1}, {1, 2}, {2, 1}, {1, 3}, {3, 1}, {1, 4}, {4, 1}, {2, 2}, {2, 3}, {3, 2}} {
		for _, g := range allGrids(side[0], side[1]) {
			compare(t, g)
		}
	}
}

// P6.1: grids of all sides, drawn by lot, and those at the limits.
func TestManyGrids(t *testing.T) {
	for _, g := range append(manyGrids(), fewGrids()...) {
		compare(t, g)
	}
}

// P6.1: a grid by each of the eight turns, written out.
func TestTurnsWrittenOut(t *testing.T) {
	g := sketched(
		"# .+.",
		"    +",
		". . .",
	)
	for k, want := range []api.Grid{
		g,
		sketched(". #", "   ", ". .", "  +", ".+."),
		sketched(". . .", "+    ", ".+. #"),
		sketched(".+.", "+  ", ". .", "   ", "# ."),
		sketched(".+. #", "+    ", ". . ."),
		sketched(".+.", "  +", ". .", "   ", ". #"),
		sketched(". . .", "    +", "# .+."),
		sketched("# .", "   ", ". .", "+  ", ".+."),
	} {
		if q := must(t, g, k); !grid.Same(q, want) {
			t.Errorf("by %d: %v, want %v", k, q, want)
		}
	}
}

// P6.1: one bar at every place goes with its two cells, by each turn, and stays one bar.
func TestBarsGoWithTheirCells(t *testing.T) {
	for _, side := range ends {
		h, w := side[0], side[1]
		for i := range h * w {
			if i%w < w-1 {
				g := blank(h, w)
				g.Right[i] = true
				barTurns(t, g, i, i+1)
			}
			if i/w < h-1 {
				g := blank(h, w)
				g.Below[i] = true
				barTurns(t, g, i, i+w)
			}
		}
	}
}

// barTurns asks that the one bar of g, between i and j, stands between them in each turned grid.
func barTurns(t *testing.T, g api.Grid, i, j int) {
	t.Helper()
	for k := range 8 {
		a, b := wantPlace(g.H, g.W, i, k), wantPlace(g.H, g.W, j, k)
		q := must(t, g, k)
		want := blank(q.H, q.W)
		switch low := min(a, b); max(a, b) {
		case low + q.W: // ahead of low + 1: in a grid of one column both are the same
			want.Below[low] = true
		case low + 1:
			want.Right[low] = true
		}
		if !grid.Same(q, want) {
			t.Errorf("%d rows of %d, the bar between %d and %d by %d: %v", g.H, g.W, i, j, k, q)
		}
	}
}

// P6.1: a turned grid is right, its cells and parts are as many, and its steps are the turned steps.
func TestTurnedGridsAreRight(t *testing.T) {
	for _, g := range manyGrids() {
		_, parts := grid.Parts(g)
		for k := range 8 {
			q := must(t, g, k)
			_, n := grid.Parts(q)
			if grid.Check(q) != api.OK || grid.Count(q) != grid.Count(g) || n != parts {
				t.Fatalf("%v by %d: %v has %d parts", g, k, q, n)
			}
			for i := range g.Block {
				var want []int
				for _, j := range grid.Near(g, i) {
					want = append(want, wantPlace(g.H, g.W, j, k))
				}
				near := grid.Near(q, wantPlace(g.H, g.W, i, k))
				slices.Sort(want)
				slices.Sort(near)
				if !slices.Equal(near, want) {
					t.Fatalf("%v by %d: near %d are %v, want %v", g, k, i, near, want)
				}
			}
		}
	}
}

// wrongGrids are grids that aren't right, by their errors.
func wrongGrids() map[api.Errno][]api.Grid {
	wrong := map[api.Errno][]api.Grid{api.ErrSide: {{}}, api.ErrSize: {{H: 2, W: 3}, {H: 16, W: 16}}}
	for _, side := range noSides {
		for _, g := range []api.Grid{blank(2, 3), blank(1, 1), {}, sketched("# .")} {
			rows, columns, both := clone(g), clone(g), clone(g)
			rows.H, rows.W = side, 3
			columns.H, columns.W = 2, side
			both.H, both.W = side, side
			wrong[api.ErrSide] = append(wrong[api.ErrSide], rows, columns, both)
		}
	}
	for _, n := range []int{0, 1, 5, 7, 12} {
		for k := range 3 {
			g := blank(2, 3)
			*[]*[]bool{&g.Block, &g.Right, &g.Below}[k] = slices.Repeat([]bool{true}, n)
			wrong[api.ErrSize] = append(wrong[api.ErrSize], g)
		}
	}
	for _, bar := range []int{2, 5} {
		g := blank(2, 3)
		g.Right[bar] = true
		wrong[api.ErrBar] = append(wrong[api.ErrBar], g)
	}
	for _, bar := range []int{3, 4, 5} {
		g := blank(2, 3)
		g.Below[bar] = true
		wrong[api.ErrBar] = append(wrong[api.ErrBar], g)
	}
	wrong[api.ErrBar] = append(wrong[api.ErrBar],
		sketched("#+."), sketched(".+#"), sketched("#", "+", "."), sketched(".", "+", "#"))
	return wrong
}

// isZero tells whether the grid has nothing.
func isZero(g api.Grid) bool {
	return g.H == 0 && g.W == 0 && len(g.Block)+len(g.Right)+len(g.Below) == 0
}

// P6.1, P0: a grid that isn't right has Check's error, no symmetry and no canon; a number that is no turn is told ahead of it.
func TestWrongGrids(t *testing.T) {
	for want, grids := range wrongGrids() {
		for _, g := range grids {
			if e := grid.Check(g); e != want {
				t.Fatalf("%v is no grid for this test: %v", g, e)
			}
			for k := range 8 {
				if q, e := turn.Turn(g, k); e != want || !isZero(q) {
					t.Errorf("Turn(%v, %d) = %v, %v, want %v", g, k, q, e, want)
				}
			}
			for _, k := range noTurns {
				if q, e := turn.Turn(g, k); e != api.ErrTurn || !isZero(q) {
					t.Errorf("Turn(%v, %d) = %v, %v, want ErrTurn", g, k, q, e)
				}
			}
			if list := turn.Symmetries(g); len(list) != 0 {
				t.Errorf("Symmetries(%v) = %v", g, list)
			}
			if c, at, e := turn.Canon(g); e != want || at != 0 || !isZero(c) {
				t.Errorf("Canon(%v) = %v, %d, %v, want %v", g, c, at, e, want)
			}
		}
	}
}

// P6.1, P0: numbers that are no turns, of right grids.
func TestNoTurns(t *testing.T) {
	for _, k := range noTurns {
		for _, g := range []api.Grid{blank(1, 1), blank(2, 3), blank(16, 16), sketched("# .+.")} {
			if q, e := turn.Turn(g, k); e != api.ErrTurn || !isZero(q) {
				t.Errorf("Turn(%v, %d) = %v, %v", g, k, q, e)
			}
		}
		if turn.Back(k) != -1 {
			t.Errorf("Back(%d) = %d", k, turn.Back(k))
		}
		for _, other := range append([]int{0, 1, 2, 3, 4, 5, 6, 7}, noTurns...) {
			if turn.Then(k, other) != -1 || turn.Then(other, k) != -1 {
				t.Errorf("Then of %d and %d: %d, %d", k, other, turn.Then(k, other), turn.Then(other, k))
			}
		}
	}
}

// P6.1: Then and Back of all turns, written out.
func TestThenAndBack(t *testing.T) {
	for a, row := range [8][8]int{
		{0, 1, 2, 3, 4, 5, 6, 7},
		{1, 2, 3, 0, 7, 4, 5, 6},
		{2, 3, 0, 1, 6, 7, 4, 5},
		{3, 0, 1, 2, 5, 6, 7, 4},
		{4, 5, 6, 7, 0, 1, 2, 3},
		{5, 6, 7, 4, 3, 0, 1, 2},
		{6, 7, 4, 5, 2, 3, 0, 1},
		{7, 4, 5, 6, 1, 2, 3, 0},
	} {
		for b, want := range row {
			if k := turn.Then(a, b); k != want {
				t.Errorf("Then(%d, %d) = %d, want %d", a, b, k, want)
			}
		}
	}
	for a, want := range [8]int{0, 3, 2, 1, 4, 5, 6, 7} {
		if k := turn.Back(a); k != want {
			t.Errorf("Back(%d) = %d, want %d", a, k, want)
		}
	}
}

// P6.2: Then and Back do to each cell what the turns do one behind the other.
func TestThenOfCells(t *testing.T) {
	for _, side := range ends {
		h, w := side[0], side[1]
		for a := range 8 {
			hh, ww := h, w
			if a%2 == 1 {
				hh, ww = w, h
			}
			for i := range h * w {
				at := wantPlace(h, w, i, a)
				for b := range 8 {
					if to := wantPlace(hh, ww, at, b); to != wantPlace(h, w, i, turn.Then(a, b)) {
						t.Fatalf("%v: %d by %d and then by %d goes to %d, Then is %d", side, i, a, b, to, turn.Then(a, b))
					}
				}
				if to := wantPlace(hh, ww, at, turn.Back(a)); to != i {
					t.Fatalf("%v: %d by %d and back goes to %d", side, i, a, to)
				}
			}
		}
	}
}

// P6.2: a turned grid turned again, by all pairs of turns, and back.
func TestTurnOfTurned(t *testing.T) {
	grids := append(fewGrids(), allGrids(2, 2)...)
	for _, g := range grids {
		for a := range 8 {
			q := must(t, g, a)
			for b := range 8 {
				if one, two := must(t, g, turn.Then(a, b)), must(t, q, b); !grid.Same(one, two) {
					t.Fatalf("%v by %d and then by %d: %v, by Then: %v", g, a, b, two, one)
				}
			}
			if back := must(t, q, turn.Back(a)); !grid.Same(back, g) {
				t.Fatalf("%v by %d and back: %v", g, a, back)
			}
		}
	}
}

// P6.2: the turns are a group: Then joins as it likes, 0 does nothing, Back takes back from both sides.
func TestGroup(t *testing.T) {
	for a := range 8 {
		if turn.Then(a, 0) != a || turn.Then(0, a) != a {
			t.Error("0 does something to", a)
		}
		if back := turn.Back(a); turn.Then(a, back) != 0 || turn.Then(back, a) != 0 || turn.Back(back) != a {
			t.Error("Back of", a, back)
		}
		for b := range 8 {
			if back := turn.Then(turn.Back(b), turn.Back(a)); turn.Back(turn.Then(a, b)) != back {
				t.Error("Back of", a, "and then", b, back)
			}
			for c := range 8 {
				if turn.Then(turn.Then(a, b), c) != turn.Then(a, turn.Then(b, c)) {
					t.Error("Then of", a, b, c)
				}
			}
		}
	}
}

// P6.3: a grid for every set of symmetries that there is, by blocks and by bars.
func TestEverySetOfSymmetries(t *testing.T) {
	for _, x := range []struct {
		want []int
		g    api.Grid
	}{
		{[]int{0}, sketched(". # . .", "", ". . . .", "", ". . . .", "", ". . . .")},
		{[]int{0, 2}, sketched(". # . .", "", ". . . .", "", ". . . .", "", ". . # .")},
		{[]int{0, 4}, sketched(". # # .", "", ". . . .", "", ". . . .", "", ". . . .")},
		{[]int{0, 6}, sketched(". # . .", "", ". . . .", "", ". . . .", "", ". # . .")},
		{[]int{0, 5}, sketched(". # . .", "", ". . . .", "", ". . . #", "", ". . . .")},
		{[]int{0, 7}, sketched(". # . .", "", "# . . .", "", ". . . .", "", ". . . .")},
		{[]int{0, 1, 2, 3}, sketched(". # . .", "", ". . . #", "", "# . . .", "", ". . # .")},
		{[]int{0, 2, 4, 6}, sketched(". # # .", "", ". . . .", "", ". . . .", "", ". # # .")},
		{[]int{0, 2, 5, 7}, sketched(". # . .", "", "# . . .", "", ". . . #", "", ". . # .")},
		{[]int{0, 1, 2, 3, 4, 5, 6, 7}, sketched(". # # .", "", "# . . #", "", "# . . #", "", ". # # .")},
		{[]int{0}, sketched(".+. .", "", ". . .", "", ". . .")},
		{[]int{0, 2}, sketched(".+. .", "", ". . .", "", ". .+.")},
		{[]int{0, 4}, sketched(".+.+.", "", ". . .", "", ". . .")},
		{[]int{0, 6}, sketched(".+. .", "", ". . .", "", ".+. .")},
		{[]int{0, 5}, sketched(".+. .", "", ". . .", "    +", ". . .")},
		{[]int{0, 7}, sketched(".+. .", "+    ", ". . .", "", ". . .")},
		{[]int{0, 1, 2, 3}, sketched(".+. .", "    +", ". . .", "+    ", ". .+.")},
		{[]int{0, 2, 4, 6}, sketched(".+.+.", "", ". . .", "", ".+.+.")},
		{[]int{0, 2, 5, 7}, sketched(".+. .", "+    ", ". . .", "    +", ". .+.")},
		{[]int{0, 1, 2, 3, 4, 5, 6, 7}, sketched(".+.+.", "+   +", ". . .", "+   +", ".+.+.")},
		{[]int{0}, sketched("# . .", "", ". . .")},
		{[]int{0, 2}, sketched("# . .", "", ". . #")},
		{[]int{0, 4}, sketched("# . #", "", ". . .")},
		{[]int{0, 6}, sketched("# . .", "", "# . .")},
		{[]int{0, 2, 4, 6}, sketched(". .+.+. .")},
		{[]int{0, 6}, sketched(". .+.+. #")},
		{[]int{0, 4}, sketched(".", "+", ".", " ", ".")},
		{[]int{0, 1, 2, 3, 4, 5, 6, 7}, sketched("#")},
	} {
		if list := turn.Symmetries(x.g); !slices.Equal(list, x.want) {
			t.Errorf("Symmetries(%v) = %v, want %v", x.g, list, x.want)
		}
	}
}

// P6.3: of all squares of nine cells with bars alone and all of four with blocks too, the sets are the ten that
// there are; of all oblong grids of six cells, the five.
func TestSetsThatAreMet(t *testing.T) {
	square, oblong := map[string]bool{}, map[string]bool{}
	for bits := range 1 << 12 {
		g := blank(3, 3)
		for n := range 6 {
			g.Right[n/2*3+n%2] = bits>>n&1 == 1
			g.Below[n] = bits>>(6+n)&1 == 1
		}
		square[closed(t, g)] = true
	}
	for _, g := range allGrids(2, 2) {
		square[closed(t, g)] = true
	}
	for _, g := range append(allGrids(2, 3), allGrids(3, 2)...) {
		oblong[closed(t, g)] = true
	}
	if len(square) != 10 || len(oblong) != 5 {
		t.Error("sets of squares", square, "and of oblong ones", oblong)
	}
}

// P6.3: the same of grids of all sides.
func TestSymmetriesAreClosed(t *testing.T) {
	for _, g := range append(manyGrids(), fewGrids()...) {
		closed(t, g)
	}
}

// closed asks that the symmetries rise, have 0, with two turns the one that does both, and each one's way back. It answers them as a text.
func closed(t *testing.T, g api.Grid) string {
	t.Helper()
	list := turn.Symmetries(g)
	if !slices.IsSorted(list) || len(slices.Compact(slices.Clone(list))) != len(list) || !slices.Contains(list, 0) {
		t.Fatalf("Symmetries(%v) = %v", g, list)
	}
	var b strings.Builder
	for _, x := range list {
		b.WriteByte(byte('0' + x))
		if !slices.Contains(list, turn.Back(x)) {
			t.Fatalf("Symmetries(%v) = %v without %d taken back", g, list, x)
		}
		for _, y := range list {
			if !slices.Contains(list, turn.Then(x, y)) {
				t.Fatalf("Symmetries(%v) = %v without %d and then %d", g, list, x, y)
			}
		}
	}
	return b.String()
}

// P6.1: Canon's order: rows, columns, then Block ahead of Right ahead of Below, true ahead of false; the least turn.
func TestCanonOrder(t *testing.T) {
	for _, x := range []struct {
		why   string
		g, to api.Grid
		at    int
	}{
		{"one cell", blank(1, 1), blank(1, 1), 0},
		{"a blank square", blank(16, 16), blank(16, 16), 0},
		{"fewer rows already", blank(2, 3), blank(2, 3), 0},
		{"fewer rows by a quarter", blank(3, 2), blank(2, 3), 1},
		{"a column", blank(16, 1), blank(1, 16), 1},
		{"rows ahead of blocks", sketched("# .", "", ". .", "", ". ."), sketched("# . .", "", ". . ."), 3 + 4},
		{"a block comes first", sketched(". . #"), sketched("# . ."), 2},
		{"a block that isn't last", sketched(". #", "", ". ."), sketched("# .", "", ". ."), 3},
		{"the second place, where the first is alike", sketched("# .", "", "# ."), sketched("# #", "", ". ."), 1},
		{"Block ahead of Right", sketched(".+. . #"), sketched("# . .+."), 2},
		{"Block ahead of Below", sketched(". .", "+  ", ". .", "   ", ". #"), sketched("# . .", "     ", ". .+."), 1 + 4},
		{"Right comes first", sketched(". .+."), sketched(".+. ."), 2},
		{"Right ahead of Below", sketched(". .", "+  ", ". ."), sketched(".+.", "   ", ". ."), 1},
		{"Below comes first", sketched(". . .", "    +", ". . ."), sketched(". . .", "+    ", ". . ."), 2},
		{"Right's first place ahead of Below's", sketched(". .+.", "+    ", ". . ."), sketched(".+. .", "    +", ". . ."), 4},
	} {
		c, at, e := turn.Canon(x.g)
		if e != api.OK || at != x.at || !grid.Same(c, x.to) {
			t.Errorf("%s: %v, %d, %v, want %v, %d", x.why, c, at, e, x.to, x.at)
		}
	}
}

// P6.4: all turned grids have one canon; a canon is its own, by the turn 0; the turn that is told gives it.
func TestCanonOfTurned(t *testing.T) {
	grids := append(manyGrids(), fewGrids()...)
	grids = append(grids, allGrids(2, 2)...)
	for _, g := range append(grids, allGrids(3, 2)...) {
		c, at, e := turn.Canon(g)
		if e != api.OK || !grid.Same(must(t, g, at), c) {
			t.Fatalf("Canon(%v) = %v, %d, %v", g, c, at, e)
		}
		for k := range 8 {
			q := must(t, g, k)
			if d, at, e := turn.Canon(q); e != api.OK || !grid.Same(d, c) || !grid.Same(must(t, q, at), c) {
				t.Fatalf("Canon(%v by %d) = %v, %d, %v, want %v", g, k, d, at, e, c)
			}
		}
		if d, at, e := turn.Canon(c); e != api.OK || at != 0 || !grid.Same(d, c) {
			t.Fatalf("Canon of a canon %v = %v, %d, %v", c, d, at, e)
		}
	}
}

// P6.4: grids that no turn takes to one another have canons that differ.
func TestCanonsTellGridsApart(t *testing.T) {
	grids := allGrids(2, 2)
	for _, a := range grids {
		for _, b := range grids {
			turns := false
			for k := range 8 {
				turns = turns || grid.Same(wantTurn(a, k), b)
			}
			c, _, _ := turn.Canon(a)
			d, _, _ := turn.Canon(b)
			if grid.Same(c, d) != turns {
				t.Fatalf("%v and %v: %v and %v", a, b, c, d)
			}
		}
	}
}

// lists are the three lists of a grid.
func lists(g api.Grid) [][]bool {
	return [][]bool{g.Block, g.Right, g.Below}
}

// roomy is g with lists that have room behind them, and begin behind a place.
func roomy(g api.Grid) (api.Grid, [][]bool) {
	var whole [][]bool
	for _, list := range []*[]bool{&g.Block, &g.Right, &g.Below} {
		n := len(*list)
		all := append(append([]bool{true, false}, *list...), true, false, true, true)
		whole, *list = append(whole, all), all[2:2+n]
	}
	return g, whole
}

// P6.5: what is handed in isn't changed, the room behind its lists neither, be it right or wrong.
func TestHandedInStays(t *testing.T) {
	grids := fewGrids()
	for _, wrong := range wrongGrids() {
		grids = append(grids, wrong...)
	}
	for _, g := range grids {
		room, whole := roomy(g)
		_, was := roomy(g)
		for k := -1; k <= 8; k++ {
			turn.Turn(room, k)
		}
		turn.Symmetries(room)
		turn.Canon(room)
		if !slices.EqualFunc(whole, was, slices.Equal) {
			t.Errorf("%v was changed: %v, was %v", g, whole, was)
		}
	}
}

// spoil turns over each element of a list, and of the room behind it.
func spoil(list []bool) {
	list = list[:cap(list)]
	for i := range list {
		list[i] = !list[i]
	}
}

// P6.5: answers are new memory: what is written to the argument's lists, to one of the answer's, or to the room
// behind them, no other list has.
func TestAnswersAreNew(t *testing.T) {
	calls := map[string]func(api.Grid) api.Grid{
		"Canon": func(g api.Grid) api.Grid {
			c, _, _ := turn.Canon(g)
			return c
		},
	}
	for k := range 8 {
		calls["Turn by "+string(rune('0'+k))] = func(g api.Grid) api.Grid {
			q, _ := turn.Turn(g, k)
			return q
		}
	}
	for name, call := range calls {
		for _, g := range fewGrids() {
			in, whole := roomy(g)
			a, b := call(in), call(in)
			want := clone(a)
			for n := range 3 {
				spoil(whole[n])
				if !grid.Same(a, want) || !grid.Same(b, want) {
					t.Fatalf("%s of %v has changed with its argument", name, g)
				}
				spoil(whole[n])
			}
			for n := range 3 {
				spoil(lists(a)[n])
				spoil(lists(want)[n])
				if !grid.Same(a, want) || !grid.Same(in, g) || !grid.Same(call(in), b) {
					t.Fatalf("%s of %v shares the memory of its list %d", name, g, n)
				}
				spoil(lists(a)[n])
				spoil(lists(want)[n])
			}
		}
	}
}

// P6.5: nothing is kept: a grid that is changed and handed in again is the changed one, and Symmetries' list is new.
func TestHandedInIsNotKept(t *testing.T) {
	g := blank(3, 3)
	compare(t, g)
	g.Block[1] = true
	compare(t, g)
	g.Block[1], g.Right[3] = false, true
	compare(t, g)
	one, two := turn.Symmetries(g), turn.Symmetries(g)
	for i := range one[:cap(one)] {
		one[:cap(one)][i] = 99
	}
	if want := []int{0, 6}; !slices.Equal(two, want) || !slices.Equal(turn.Symmetries(g), want) {
		t.Error("Symmetries' lists share memory", two)
	}
}
