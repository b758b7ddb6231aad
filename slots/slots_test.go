package slots_test

import (
	"math"
	"slices"
	"strconv"
	"strings"
	"testing"

	"rebus/api"
	"rebus/grid"
	"rebus/slots"
	"rebus/turn"
)

// far are ints that are no slot's number.
var far = []int{math.MinInt, math.MinInt + 1, -1 << 32, -999, -256, -1, 0, 256, 257, 999, 1000, 1 << 32, math.MaxInt - 1, math.MaxInt}

// noSides are ints that are no side of a grid; two of them have a product that wraps.
var noSides = []int{math.MinInt, math.MinInt + 1, -1 << 32, -16, -1, 0, 17, 18, 256, 1 << 32, math.MaxInt - 1, math.MaxInt}

// none is what stands where a cell has no seat.
var none = api.Seat{Slot: -1, At: 0}

// blank is the grid of open cells, made by hand.
func blank(h, w int) api.Grid {
	return api.Grid{H: h, W: w, Block: make([]bool, h*w), Right: make([]bool, h*w), Below: make([]bool, h*w)}
}

// clone shares no memory with g.
func clone(g api.Grid) api.Grid {
	g.Block, g.Right, g.Below = slices.Clone(g.Block), slices.Clone(g.Right), slices.Clone(g.Below)
	return g
}

// sketched is the grid of rows of signs, a row of cells and a row of what stands
// between them by turns: . an open cell, # a block, + a bar; "" has no bar.
func sketched(rows ...string) api.Grid {
	at := func(r, c int) byte {
		if r < len(rows) && c < len(rows[r]) {
			return rows[r][c]
		}
		return ' '
	}
	g := blank((len(rows)+1)/2, (len(rows[0])+1)/2)
	for i := range g.Block {
		r, c := 2*(i/g.W), 2*(i%g.W)
		g.Block[i] = at(r, c) == '#'
		g.Right[i] = at(r, c+1) == '+'
		g.Below[i] = at(r+1, c) == '+'
	}
	return g
}

// allGrids are the right grids of these sides, every one.
func allGrids(h, w int) []api.Grid {
	size := h * w
	var list []api.Grid
	for blocks := range 1 << size {
		plain := blank(h, w)
		for i := range size {
			plain.Block[i] = blocks>>i&1 == 1
		}
		var bars [][2]int
		for i := range size {
			if i%w < w-1 && !plain.Block[i] && !plain.Block[i+1] {
				bars = append(bars, [2]int{0, i})
			}
			if i/w < h-1 && !plain.Block[i] && !plain.Block[i+w] {
				bars = append(bars, [2]int{1, i})
			}
		}
		for bits := range 1 << len(bars) {
			g := clone(plain)
			for n, bar := range bars {
				[][]bool{g.Right, g.Below}[bar[0]][bar[1]] = bits>>n&1 == 1
			}
			list = append(list, g)
		}
	}
	return list
}

// lots draws numbers that are the same in every run.
type lots uint64

func (l *lots) below(n int) int {
	*l = *l*6364136223846793005 + 1442695040888963407
	return int(uint64(*l) >> 33 % uint64(n))
}

// byLot is a right grid: of a hundred cells so many are blocks, of a hundred
// places where a bar may stand so many have one.
func byLot(l *lots, h, w, blocks, bars int) api.Grid {
	g := blank(h, w)
	for i := range g.Block {
		g.Block[i] = l.below(100) < blocks
	}
	for i := range g.Block {
		g.Right[i] = i%w < w-1 && !g.Block[i] && !g.Block[i+1] && l.below(100) < bars
		g.Below[i] = i/w < h-1 && !g.Block[i] && !g.Block[i+w] && l.below(100) < bars
	}
	return g
}

// manyGrids are right grids of all sides: blank, and with blocks and bars by lot.
func manyGrids() []api.Grid {
	l := lots(7)
	var list []api.Grid
	for h := 1; h <= 16; h++ {
		for w := 1; w <= 16; w++ {
			list = append(list, blank(h, w), byLot(&l, h, w, l.below(60), l.below(70)),
				byLot(&l, h, w, 25, 0), byLot(&l, h, w, 0, 40), byLot(&l, h, w, 10, 10))
		}
	}
	return list
}

// leastGrids are all right grids of few cells.
func leastGrids() []api.Grid {
	var list []api.Grid
	for _, side := range [][2]int{{1, 1}, {1, 2}, {2, 1}, {1, 3}, {3, 1}, {1, 5}, {5, 1}, {2, 2}, {2, 3}, {3, 2}, {2, 4}, {4, 2}} {
		list = append(list, allGrids(side[0], side[1])...)
	}
	return list
}

// runs cuts a line of cells at blocks and bars, as a text is cut into words: each
// cell is the rune of its number, each block and each bar a space.
func runs(g api.Grid, line []int, bars []bool) [][]int {
	const first = 'a'
	var b strings.Builder
	for _, i := range line {
		if g.Block[i] {
			b.WriteByte(' ')
			continue
		}
		b.WriteRune(first + rune(i))
		if bars[i] {
			b.WriteByte(' ')
		}
	}
	var list [][]int
	for _, word := range strings.Split(b.String(), " ") {
		var run []int
		for _, r := range word {
			run = append(run, int(r-first))
		}
		if len(run) > 1 {
			list = append(list, run)
		}
	}
	return list
}

// wantList is the chapter's list: the runs of all rows and of all columns, set in
// order by their first cells, and numbered behind that.
func wantList(g api.Grid) []api.Slot {
	var list []api.Slot
	for r := range g.H {
		var row []int
		for c := range g.W {
			row = append(row, r*g.W+c)
		}
		for _, run := range runs(g, row, g.Right) {
			list = append(list, api.Slot{Cells: run})
		}
	}
	for c := range g.W {
		var column []int
		for r := range g.H {
			column = append(column, r*g.W+c)
		}
		for _, run := range runs(g, column, g.Below) {
			list = append(list, api.Slot{Down: true, Cells: run})
		}
	}
	slices.SortStableFunc(list, func(a, b api.Slot) int { return a.Cells[0] - b.Cells[0] })
	var firsts []int
	for _, slot := range list {
		firsts = append(firsts, slot.Cells[0])
	}
	firsts = slices.Compact(firsts)
	for n := range list {
		list[n].Num = 1 + slices.Index(firsts, list[n].Cells[0])
	}
	return list
}

// isSameSlot tells whether the slots are alike.
func isSameSlot(a, b api.Slot) bool {
	return a.Num == b.Num && a.Down == b.Down && slices.Equal(a.Cells, b.Cells)
}

// told is a list as a text.
func told(list []api.Slot) string {
	var b strings.Builder
	for _, slot := range list {
		b.WriteString(strconv.Itoa(slot.Num))
		b.WriteByte("AD"[count(slot.Down)])
		for _, i := range slot.Cells {
			b.WriteString(" " + strconv.Itoa(i))
		}
		b.WriteString("; ")
	}
	return b.String()
}

func count(is ...bool) int {
	n := 0
	for _, x := range is {
		if x {
			n++
		}
	}
	return n
}

// compare holds every call on a right grid against what the chapter asks.
func compare(t *testing.T, g api.Grid) {
	t.Helper()
	list, want := slots.List(g), wantList(g)
	if !slices.EqualFunc(list, want, isSameSlot) {
		t.Fatalf("List(%v) = %s, want %s", g, told(list), told(want))
	}
	across, down := slots.Seats(g)
	wantAcross, wantDown := slices.Repeat([]api.Seat{none}, g.H*g.W), slices.Repeat([]api.Seat{none}, g.H*g.W)
	for n, slot := range want {
		for at, i := range slot.Cells {
			[][]api.Seat{wantAcross, wantDown}[count(slot.Down)][i] = api.Seat{Slot: n, At: at}
		}
	}
	if !slices.Equal(across, wantAcross) || !slices.Equal(down, wantDown) {
		t.Fatalf("Seats(%v) = %v, %v, want %v, %v", g, across, down, wantAcross, wantDown)
	}
	crossings, lone := 0, []int(nil)
	for i := range g.Block {
		crossings += count(wantAcross[i] != none && wantDown[i] != none)
		if !g.Block[i] && wantAcross[i] == none && wantDown[i] == none {
			lone = append(lone, i)
		}
	}
	if n := slots.Crossings(g); n != crossings {
		t.Fatalf("Crossings(%v) = %d, want %d", g, n, crossings)
	}
	if cells := slots.Lone(g); !slices.Equal(cells, lone) {
		t.Fatalf("Lone(%v) = %v, want %v", g, cells, lone)
	}
	compareFind(t, g, want)
}

// compareFind asks for every number that the list has, and for some that none has.
func compareFind(t *testing.T, g api.Grid, list []api.Slot) {
	t.Helper()
	nums := slices.Clone(far)
	for num := range len(list) + 2 {
		nums = append(nums, num)
	}
	for _, num := range nums {
		for _, down := range []bool{false, true} {
			want := slices.IndexFunc(list, func(s api.Slot) bool { return s.Num == num && s.Down == down })
			if n := slots.Find(g, num, down); n != want {
				t.Fatalf("Find(%v, %d, %v) = %d, want %d", g, num, down, n, want)
			}
		}
	}
}

// P7.1: the chapter's examples.
func TestExamples(t *testing.T) {
	g := blank(2, 3)
	if list := told(slots.List(g)); list != "1A 0 1 2; 1D 0 3; 2D 1 4; 3D 2 5; 4A 3 4 5; " {
		t.Error("a blank 2 by 3 grid", list)
	}
	if slots.Crossings(g) != 6 || len(slots.Lone(g)) != 0 {
		t.Error("a blank 2 by 3 grid", slots.Crossings(g), slots.Lone(g))
	}
	g.Block[1], g.Block[4] = true, true
	if list := told(slots.List(g)); list != "1D 0 3; 2D 2 5; " || slots.Crossings(g) != 0 {
		t.Error("two blocks", list, slots.Crossings(g))
	}
	one := blank(1, 1)
	if lone := slots.Lone(one); len(slots.List(one)) != 0 || !slices.Equal(lone, []int{0}) {
		t.Error("one cell", lone)
	}
	whole := sketched(". . #", "", ". . .")
	if list := told(slots.List(whole)); list != "1A 0 1; 1D 0 3; 2D 1 4; 3A 3 4 5; " {
		t.Error("the whole's second example", list)
	}
	if slots.Name(12, true) != "12D" {
		t.Error(slots.Name(12, true))
	}
	if num, down, ok := slots.Read("12D"); num != 12 || !down || !ok {
		t.Error("12D", num, down, ok)
	}
	for _, s := range []string{"012D", "0A", "1000A", "1a"} {
		if num, down, ok := slots.Read(s); num != 0 || down || ok {
			t.Error(s, num, down, ok)
		}
	}
}

// P7.1: lists written out, at blocks, bars, edges and crossings of every kind.
func TestLists(t *testing.T) {
	for _, x := range []struct {
		why, want string
		g         api.Grid
		crossings int
		lone      []int
	}{
		{"one cell", "", sketched("."), 0, []int{0}},
		{"one block", "", sketched("#"), 0, nil},
		{"a row of two", "1A 0 1; ", sketched(". ."), 0, nil},
		{"a column of two", "1D 0 1; ", sketched(".", "", "."), 0, nil},
		{"a bar between two", "", sketched(".+."), 0, []int{0, 1}},
		{"a bar below one", "", sketched(".", "+", "."), 0, []int{0, 1}},
		{"a block beside one", "", sketched(". #"), 0, []int{0}},
		{"a row cut by a bar", "1A 0 1; 2A 2 3; ", sketched(". .+. ."), 0, nil},
		{"a row cut into one and three", "1A 1 2 3; ", sketched(".+. . ."), 0, []int{0}},
		{"a row cut by a block", "1A 0 1; 2A 3 4; ", sketched(". . # . ."), 0, nil},
		{"a column cut by a bar", "1D 0 1; 2D 2 3; ", sketched(".", "", ".", "+", ".", "", "."), 0, nil},
		{"a column cut by a block", "1D 0 1; 2D 3 4; ", sketched(".", "", ".", "", "#", "", ".", "", "."), 0, nil},
		{"no run goes round a row's end", "", sketched("# .", "", ". #"), 0, []int{1, 2}},
		{"a cross", "1D 1 4 7; 2A 3 4 5; ", sketched("# . #", "", ". . .", "", "# . #"), 1, nil},
		{"a ring", "1A 0 1 2; 1D 0 3 6; 2D 2 5 8; 3A 6 7 8; ", sketched(". . .", "", ". # .", "", ". . ."), 4, nil},
		{"a ring of bars", "1A 0 1 2; 1D 0 3 6; 2D 2 5 8; 3A 6 7 8; ", sketched(". . .", "  +  ", ".+.+.", "  +  ", ". . ."), 4, []int{4}},
		{"a bar cuts across alone", "1D 0 2; 2D 1 3; 3A 2 3; ", sketched(".+.", "", ". ."), 2, nil},
		{"a bar cuts down alone", "1A 0 1; 2D 1 3; 3A 2 3; ", sketched(". .", "+  ", ". ."), 2, nil},
		{"a slot down begins within a slot across", "1A 0 1 2; 2D 1 4; ", sketched(". . .", "", "# . #"), 1, nil},
		{"a slot down begins behind a bar", "1A 0 1; 2D 1 3; 3A 2 3; 3D 2 4; ", sketched(". .", "+  ", ". .", "   ", ". #"), 3, nil},
	} {
		if list := told(slots.List(x.g)); list != x.want {
			t.Errorf("%s: List = %s, want %s", x.why, list, x.want)
		}
		if n := slots.Crossings(x.g); n != x.crossings {
			t.Errorf("%s: Crossings = %d, want %d", x.why, n, x.crossings)
		}
		if lone := slots.Lone(x.g); !slices.Equal(lone, x.lone) {
			t.Errorf("%s: Lone = %v, want %v", x.why, lone, x.lone)
		}
	}
}

// P7.1: every right grid of few cells, and grids of all sides.
func TestAllLeastGrids(t *testing.T) {
	for _, g := range leastGrids() {
		compare(t, g)
	}
}

func TestManyGrids(t *testing.T) {
	for _, g := range manyGrids() {
		compare(t, g)
	}
}

// P7.1: grids at the limits: a row, a column, a square of 16, blank, of blocks alone, every cell between bars.
func TestGridsAtTheLimits(t *testing.T) {
	row, column, square := blank(1, 16), blank(16, 1), blank(16, 16)
	if list := slots.List(row); len(list) != 1 || len(list[0].Cells) != 16 || list[0].Down || list[0].Num != 1 {
		t.Error("a row of 16", told(list))
	}
	if list := slots.List(column); len(list) != 1 || len(list[0].Cells) != 16 || !list[0].Down || list[0].Num != 1 {
		t.Error("a column of 16", told(list))
	}
	list := slots.List(square)
	if len(list) != 32 || slots.Crossings(square) != 256 || list[31].Num != 31 || list[31].Down || list[31].Cells[0] != 240 {
		t.Error("a square of 16", told(list))
	}
	if slots.Find(square, 16, true) != 16 || slots.Find(square, 17, false) != 17 || slots.Find(square, 17, true) != -1 {
		t.Error("the numbers of a square of 16")
	}
	blocks, alone := blank(16, 16), blank(16, 16)
	for i := range 256 {
		blocks.Block[i] = true
		alone.Right[i], alone.Below[i] = i%16 < 15, i/16 < 15
	}
	if len(slots.List(blocks)) != 0 || len(slots.Lone(blocks)) != 0 || slots.Crossings(blocks) != 0 {
		t.Error("blocks alone")
	}
	if lone := slots.Lone(alone); len(slots.List(alone)) != 0 || len(lone) != 256 || !slices.IsSorted(lone) {
		t.Error("every cell between bars")
	}
	for _, g := range []api.Grid{row, column, square, blocks, alone} {
		compare(t, g)
	}
}

// P7.1: the grid of the most slots and the greatest number: every two cells of a row are a slot.
func TestMostSlots(t *testing.T) {
	g := blank(16, 16)
	for i := range 256 {
		g.Right[i] = i%16 < 15 && i%2 == 1
		g.Below[i] = i/16 < 15 && i/16%2 == 1
	}
	list := slots.List(g)
	if len(list) != 256 || list[255].Num != 192 || list[255].Down || slots.Crossings(g) != 256 {
		t.Error(len(list), list[len(list)-1])
	}
	compare(t, g)
}

// wrongGrids are grids that aren't right, of each error.
func wrongGrids() []api.Grid {
	wrong := []api.Grid{{}, {H: 2, W: 3}, {H: 16, W: 16}}
	for _, side := range noSides {
		for _, g := range []api.Grid{blank(2, 3), blank(1, 1), {}, sketched("# . .")} {
			rows, columns, both := clone(g), clone(g), clone(g)
			rows.H, rows.W = side, 3
			columns.H, columns.W = 2, side
			both.H, both.W = side, side
			wrong = append(wrong, rows, columns, both)
		}
	}
	wrong = append(wrong, blank(17, 1), blank(1, 17), blank(17, 17))
	for _, n := range []int{0, 1, 5, 7, 12} {
		for k := range 3 {
			g := blank(2, 3)
			*[]*[]bool{&g.Block, &g.Right, &g.Below}[k] = make([]bool, n)
			wrong = append(wrong, g)
		}
	}
	for _, bar := range []int{2, 5} {
		g := blank(2, 3)
		g.Right[bar] = true
		wrong = append(wrong, g)
	}
	for _, bar := range []int{3, 4, 5} {
		g := blank(2, 3)
		g.Below[bar] = true
		wrong = append(wrong, g)
	}
	return append(wrong, sketched("#+. ."), sketched(". .+#"), sketched("# .", "+  ", ". ."), sketched(". .", "+  ", "# ."))
}

// P7.1, P0: of a grid that isn't right there is nothing.
func TestWrongGrids(t *testing.T) {
	for _, g := range wrongGrids() {
		if grid.Check(g) == api.OK {
			t.Fatalf("%v is no grid for this test", g)
		}
		across, down := slots.Seats(g)
		if list, lone := slots.List(g), slots.Lone(g); len(list)+len(across)+len(down)+len(lone) != 0 {
			t.Errorf("%v has %s, %v, %v, %v", g, told(list), across, down, lone)
		}
		if n := slots.Crossings(g); n != 0 {
			t.Errorf("%v has %d crossings", g, n)
		}
		for _, num := range append([]int{1, 2, 3, 4}, far...) {
			if a, d := slots.Find(g, num, false), slots.Find(g, num, true); a != -1 || d != -1 {
				t.Errorf("%v has %d at %d, %d", g, num, a, d)
			}
		}
	}
}

// P7.2: the steps of layer 5 join a slot's cells, and none leads on from its ends.
func TestSlotsAreJoined(t *testing.T) {
	for _, g := range append(manyGrids(), leastGrids()...) {
		for _, slot := range slots.List(g) {
			way, last := count(slot.Down), len(slot.Cells)-1
			if last < 1 {
				t.Fatalf("%v has a slot of %v", g, slot.Cells)
			}
			for at, i := range slot.Cells[:last] {
				if j, ok := grid.Step(g, i, way); !ok || j != slot.Cells[at+1] {
					t.Fatalf("%v: no step from %d to %d", g, i, slot.Cells[at+1])
				}
			}
			if j, ok := grid.Step(g, slot.Cells[last], way); ok {
				t.Fatalf("%v: a step from the last cell of %v to %d", g, slot.Cells, j)
			}
			if j, ok := grid.Step(g, slot.Cells[0], way+2); ok {
				t.Fatalf("%v: a step from the first cell of %v to %d", g, slot.Cells, j)
			}
		}
	}
}

// P7.2: a cell has a seat of a direction just if a step of that direction leaves or reaches it.
func TestStepsHaveSeats(t *testing.T) {
	for _, g := range append(manyGrids(), leastGrids()...) {
		across, down := slots.Seats(g)
		for i := range g.Block {
			for way, seats := range [][]api.Seat{across, down} {
				_, leaves := grid.Step(g, i, way)
				_, reaches := grid.Step(g, i, way+2)
				if (leaves || reaches) != (seats[i] != none) {
					t.Fatalf("%v: steps at %d by %d: %v, %v, and the seat %v", g, i, way, leaves, reaches, seats[i])
				}
			}
		}
	}
}

// P7.3: a seat's place of its slot is the cell; each place of each slot is one cell's seat.
func TestSeatsAndListTellTheSame(t *testing.T) {
	for _, g := range append(manyGrids(), leastGrids()...) {
		list, places := slots.List(g), 0
		across, down := slots.Seats(g)
		if len(across) != len(g.Block) || len(down) != len(g.Block) {
			t.Fatalf("%v has %d and %d seats", g, len(across), len(down))
		}
		for way, seats := range [][]api.Seat{across, down} {
			for i, seat := range seats {
				if seat == none {
					continue
				}
				if slot := list[seat.Slot]; slot.Down != (way == 1) || slot.Cells[seat.At] != i {
					t.Fatalf("%v: the seat %v of %d is in %v", g, seat, i, slot)
				}
				places++
			}
		}
		for _, slot := range list {
			places -= len(slot.Cells)
		}
		if places != 0 {
			t.Fatalf("%v: %d seats more than places", g, places)
		}
	}
}

// P7.1: numbers rise by one with the cells that begin a slot, across ahead of down; Find finds each slot.
func TestNumbers(t *testing.T) {
	for _, g := range manyGrids() {
		last, first := 0, -1
		for n, slot := range slots.List(g) {
			switch {
			case slot.Cells[0] > first:
				last++
			case slot.Cells[0] < first || !slot.Down:
				t.Fatalf("%v: %v stands behind a slot that begins at %d", g, slot, first)
			}
			first = slot.Cells[0]
			if slot.Num != last || slots.Find(g, slot.Num, slot.Down) != n {
				t.Fatalf("%v: %v at %d, want the number %d", g, slot, n, last)
			}
		}
	}
}

// turned are the slots' cells in the grid turned by k, those that come to go
// across and those that come to go down, each slot's cells rising, all in order.
func turned(g api.Grid, k int) [2][][]int {
	var sets [2][][]int
	for _, slot := range slots.List(g) {
		var cells []int
		for _, i := range slot.Cells {
			to, _ := turn.Place(g.H, g.W, i, k)
			cells = append(cells, to)
		}
		slices.Sort(cells)
		way := (count(slot.Down) + k) % 2
		sets[way] = append(sets[way], cells)
	}
	for way := range sets {
		slices.SortFunc(sets[way], slices.Compare)
	}
	return sets
}

// P7.4: a turned grid has the turned slots, crossings and lone cells, and as many of each.
func TestTurnedGrids(t *testing.T) {
	for _, g := range append(manyGrids(), leastGrids()...) {
		for k := range 8 {
			q, e := turn.Turn(g, k)
			if e != api.OK {
				t.Fatalf("Turn(%v, %d): %v", g, k, e)
			}
			if a, b := len(slots.List(g)), len(slots.List(q)); a != b {
				t.Fatalf("%v by %d: %d slots, of %d", g, k, b, a)
			}
			if a, b := slots.Crossings(g), slots.Crossings(q); a != b {
				t.Fatalf("%v by %d: %d crossings, of %d", g, k, b, a)
			}
			if a, b := len(slots.Lone(g)), len(slots.Lone(q)); a != b {
				t.Fatalf("%v by %d: %d lone cells, of %d", g, k, b, a)
			}
			want, sets := turned(g, k), turned(q, 0)
			for way := range sets {
				if !slices.EqualFunc(sets[way], want[way], slices.Equal) {
					t.Fatalf("%v by %d: %v, want %v", g, k, sets, want)
				}
			}
		}
	}
}

// P7.4: mirrored along its first diagonal, a grid has each slot across as one down, its cells in their order.
func TestMirroredGrids(t *testing.T) {
	for _, g := range append(manyGrids(), leastGrids()...) {
		q, _ := turn.Turn(g, 7)
		list, other := slots.List(g), slots.List(q)
		for _, slot := range list {
			var cells []int
			for _, i := range slot.Cells {
				cells = append(cells, i%g.W*g.H+i/g.W)
			}
			is := func(s api.Slot) bool { return s.Down != slot.Down && slices.Equal(s.Cells, cells) }
			if !slices.ContainsFunc(other, is) {
				t.Fatalf("%v: %v isn't in the mirrored list %s", g, slot, told(other))
			}
		}
		across, down := slots.Seats(g)
		mirroredAcross, mirroredDown := slots.Seats(q)
		for i := range g.Block {
			j := i%g.W*g.H + i/g.W
			if across[i].At != mirroredDown[j].At || down[i].At != mirroredAcross[j].At {
				t.Fatalf("%v: the seats of %d and of %d, mirrored", g, i, j)
			}
		}
	}
}

// P7.1: the names of all numbers that have one, and their way back.
func TestNames(t *testing.T) {
	for num := 1; num <= 999; num++ {
		for _, down := range []bool{false, true} {
			want := strconv.Itoa(num) + "AD"[count(down):][:1]
			if s := slots.Name(num, down); s != want {
				t.Errorf("Name(%d, %v) = %q", num, down, s)
			}
			if n, d, ok := slots.Read(want); n != num || d != down || !ok {
				t.Errorf("Read(%q) = %d, %v, %v", want, n, d, ok)
			}
		}
	}
	for _, num := range []int{math.MinInt, math.MinInt + 1, -1 << 32, -999, -1, 0, 1000, 1001, 9999, 1<<32 + 1, math.MaxInt - 1, math.MaxInt} {
		if a, d := slots.Name(num, false), slots.Name(num, true); a != "" || d != "" {
			t.Errorf("Name(%d, ..) = %q, %q", num, a, d)
		}
	}
}

// wantRead is the chapter's Read: s is looked for among all names.
func wantRead(s string, names map[string]int) (int, bool, bool) {
	at, ok := names[s]
	return at / 2, at%2 == 1, ok
}

// allNames are the names that there are, each with twice its number, and one more if it goes down.
func allNames() map[string]int {
	names := map[string]int{}
	for num := 1; num <= 999; num++ {
		names[strconv.Itoa(num)+"A"] = 2 * num
		names[strconv.Itoa(num)+"D"] = 2*num + 1
	}
	return names
}

// compareRead holds Read against what the chapter asks.
func compareRead(t *testing.T, s string, names map[string]int) {
	t.Helper()
	num, down, ok := slots.Read(s)
	if n, d, is := wantRead(s, names); num != n || down != d || ok != is {
		t.Fatalf("Read(%q) = %d, %v, %v, want %d, %v, %v", s, num, down, ok, n, d, is)
	}
}

// P7.1, P0: Read of all texts of at most two bytes, and of all of at most five signs of those that could mislead.
func TestReadOfAllTexts(t *testing.T) {
	names := allNames()
	compareRead(t, "", names)
	for a := range 256 {
		compareRead(t, string([]byte{byte(a)}), names)
		for b := range 256 {
			compareRead(t, string([]byte{byte(a), byte(b)}), names)
		}
	}
	texts := []string{""}
	for range 5 {
		var longer []string
		for _, s := range texts {
			for _, sign := range "019AaDd+-_ " {
				longer = append(longer, s+string(sign))
			}
		}
		for _, s := range longer {
			compareRead(t, s, names)
		}
		texts = longer
	}
}

// P7.1, P0: texts that look like names: other digits and signs, more of them, numbers that wrap, bytes of no rune.
func TestReadOfNoNames(t *testing.T) {
	for _, s := range []string{
		"A", "D", "AD", "A1", "D12", "1", "12", "999", "1AD", "1DA", "1AA", "12DD", "1A ", " 1A", "1A\n", "\n1A", "1\x00A",
		"00A", "01A", "001D", "0999D", "-1A", "+1D", "-0A", "1_0A", "0x1A", "1e1D", "1.0A", "1,A", "1000D", "9990A",
		"1a", "1d", "1B", "1C", "1E", "1\x00", "1\xff", "\xff1A", "1\xffA", "1\xc1", "1\xc4",
		"1Ａ", "1Á", "１A", "١A", "1А", "½A",
		"4294967297A", "18446744073709551617A", "9223372036854775807D", "9223372036854775808D", "-9223372036854775808A",
		strings.Repeat("0", 70000) + "1A", "1" + strings.Repeat("A", 70000), strings.Repeat("9", 70000) + "D", strings.Repeat("1D", 40000),
	} {
		if num, down, ok := slots.Read(s); num != 0 || down || ok {
			t.Errorf("Read(%.40q) = %d, %v, %v", s, num, down, ok)
		}
	}
}

// roomy is g with lists that have room behind them, and begin behind a place.
func roomy(g api.Grid) (api.Grid, [][]bool) {
	var whole [][]bool
	for _, list := range []*[]bool{&g.Block, &g.Right, &g.Below} {
		n := len(*list)
		all := append(append([]bool{true, false}, *list...), true, false, true, true)
		whole, *list = append(whole, all), all[2:2+n]
	}
	return g, whole
}

// callAll makes every call on the grid.
func callAll(g api.Grid) {
	slots.List(g)
	slots.Seats(g)
	slots.Crossings(g)
	slots.Lone(g)
	slots.Find(g, 1, false)
	slots.Find(g, 1, true)
}

// P7.5: what is handed in isn't changed, the room behind its lists neither, be it right or wrong.
func TestHandedInStays(t *testing.T) {
	for _, g := range append(manyGrids(), wrongGrids()...) {
		room, whole := roomy(g)
		_, was := roomy(g)
		callAll(room)
		if !slices.EqualFunc(whole, was, slices.Equal) {
			t.Fatalf("%v was changed: %v, was %v", g, whole, was)
		}
	}
}

// P7.5: what is handed in isn't kept: changed and handed in again, it is the changed one, and earlier answers stay.
func TestHandedInIsNotKept(t *testing.T) {
	g := blank(3, 3)
	compare(t, g)
	list := slots.List(g)
	across, down := slots.Seats(g)
	g.Block[4] = true
	if told(list) != "1A 0 1 2; 1D 0 3 6; 2D 1 4 7; 3D 2 5 8; 4A 3 4 5; 5A 6 7 8; " {
		t.Error("a list has changed with its argument", told(list))
	}
	if across[4] != (api.Seat{Slot: 4, At: 1}) || down[4] != (api.Seat{Slot: 2, At: 1}) {
		t.Error("seats have changed with their argument", across[4], down[4])
	}
	compare(t, g)
	g.Block[4], g.Right[3], g.Below[0] = false, true, true
	compare(t, g)
	g.Right[8] = true
	if len(slots.List(g)) != 0 {
		t.Error("a grid that has become wrong has a list", told(slots.List(g)))
	}
}

// spoil writes over a list and the room behind it.
func spoil[T any](list []T, with T) {
	list = list[:cap(list)]
	for i := range list {
		list[i] = with
	}
}

// P7.5: answered lists, and the lists in them, are new memory: what is written to one, or to the room behind it, no
// other has.
func TestListsAreNew(t *testing.T) {
	for _, g := range append(leastGrids(), manyGrids()...) {
		want := wantList(g)
		list, other := slots.List(g), slots.List(g)
		for n := range list {
			spoil(list[n].Cells, -99)
			for m := n + 1; m < len(list); m++ {
				if !isSameSlot(list[m], want[m]) {
					t.Fatalf("%v: the cells of the slots %d and %d share memory", g, n, m)
				}
			}
		}
		spoil(list, api.Slot{Num: -99, Cells: []int{-99}})
		if !slices.EqualFunc(other, want, isSameSlot) {
			t.Fatalf("%v: two lists share memory", g)
		}
	}
}

func TestSeatsAndLoneAreNew(t *testing.T) {
	for _, g := range append(leastGrids(), manyGrids()...) {
		across, down := slots.Seats(g)
		wantAcross, wantDown := slots.Seats(g)
		keptAcross, keptDown := slices.Clone(wantAcross), slices.Clone(wantDown)
		spoil(across, api.Seat{Slot: -99, At: -99})
		if !slices.Equal(down, keptDown) {
			t.Fatalf("%v: the seats across and those down share memory", g)
		}
		spoil(down, api.Seat{Slot: -99, At: -99})
		if !slices.Equal(wantAcross, keptAcross) || !slices.Equal(wantDown, keptDown) {
			t.Fatalf("%v: the seats of two calls share memory", g)
		}
		lone, other := slots.Lone(g), slots.Lone(g)
		kept := slices.Clone(other)
		spoil(lone, -99)
		if !slices.Equal(other, kept) {
			t.Fatalf("%v: the lone cells of two calls share memory", g)
		}
	}
}
