package mask_test

import (
	"iter"
	"math"
	"slices"
	"testing"

	"rebus/mask"
)

const all uint64 = math.MaxUint64

// numbersOf are the numbers whose bits are 1, told by halving alone.
func numbersOf(m uint64) []int {
	var list []int
	for i := 0; m > 0; i++ {
		if m%2 == 1 {
			list = append(list, i)
		}
		m /= 2
	}
	return list
}

// power is 2^i, told by doubling alone.
func power(i int) uint64 {
	p := uint64(1)
	for range i {
		p *= 2
	}
	return p
}

// sumOf is the mask of different numbers from 0 to 63.
func sumOf(list []int) uint64 {
	var m uint64
	for _, i := range list {
		m += power(i)
	}
	return m
}

// heldOnce are the list's numbers that a mask holds, each once, rising.
func heldOnce(list []int) []int {
	var held []int
	for i := range 64 {
		if slices.Contains(list, i) {
			held = append(held, i)
		}
	}
	return held
}

// subsOf are all masks of the list's numbers, put together one number after the other.
func subsOf(list []int) []uint64 {
	subs := []uint64{0}
	for _, i := range list {
		for _, s := range slices.Clone(subs) {
			subs = append(subs, s+power(i))
		}
	}
	slices.Sort(subs)
	return subs
}

// mixed gives so many words without a plain shape, the same ones each time.
func mixed(n int) []uint64 {
	words := make([]uint64, n)
	x := uint64(1)
	for i := range words {
		x = x*6364136223846793005 + 1442695040888963407
		words[i] = x ^ x>>29
	}
	return words
}

// masks are sets of many shapes: small ones, none, all, one number, two, all but one, runs from either end, mixed ones.
func masks() []uint64 {
	list := []uint64{0, all, 0x5555555555555555, 0xAAAAAAAAAAAAAAAA, 0x8000000000000001, 0x00000000FFFFFFFF, 0xFFFFFFFF00000000}
	for m := range uint64(1 << 10) {
		list = append(list, m)
	}
	for i := range 64 {
		p := power(i)
		list = append(list, p, all-p, p-1, all-(p-1))
		for j := range i {
			list = append(list, p+power(j))
		}
	}
	return append(list, mixed(500)...)
}

// farNumbers are those that no mask holds, at every edge.
func farNumbers() []int {
	return []int{-1, -2, -63, -64, -65, 64, 65, 127, 128, 255, 256, 1 << 32, 1<<32 + 1, -1 << 32,
		math.MinInt8, math.MinInt32, math.MaxInt32, math.MinInt, math.MinInt + 1, math.MaxInt - 1, math.MaxInt}
}

// lists are what Of is handed: no number, one, several in any order, twice, held or not.
func lists() [][]int {
	far := farNumbers()
	list := [][]int{nil, {}, {0}, {63}, {64}, {-1}, {0, 63}, {63, 0}, {0, 0}, {63, 63, 63}, {5, 3, 1, 3, 5},
		{math.MinInt}, {math.MaxInt}, {math.MinInt, 0, math.MaxInt, 63}, far, append(slices.Clone(far), 7, 0, 63, 7)}
	for i := -130; i <= 130; i++ {
		list = append(list, []int{i}, []int{i, 64 - i, i, 2, -i})
	}
	for _, m := range mixed(100) {
		down := numbersOf(m)
		slices.Reverse(down)
		list = append(list, append(down, 1, 64, 1))
	}
	return list
}

// taken are the first of a sequence, at most so many.
func taken[T any](seq iter.Seq[T], most int) []T {
	var list []T
	if most == 0 {
		return list
	}
	for v := range seq {
		list = append(list, v)
		if len(list) == most {
			break
		}
	}
	return list
}

func TestExamples(t *testing.T) {
	if m := mask.Of(3, 0, 64, -1, 3); m != 9 {
		t.Error("Of", m)
	}
	if m := mask.Full(3); m != 7 {
		t.Error("Full", m)
	}
	if l := mask.List(9); !slices.Equal(l, []int{0, 3}) {
		t.Error("List", l)
	}
	if k := mask.Nth(9, 1); k != 3 {
		t.Error("Nth", k)
	}
	if k := mask.Nth(9, 2); k != -1 {
		t.Error("Nth past the last", k)
	}
	if l := slices.Collect(mask.Sub(9)); !slices.Equal(l, []uint64{0, 1, 8, 9}) {
		t.Error("Sub of 9", l)
	}
	if l := slices.Collect(mask.Sub(0)); !slices.Equal(l, []uint64{0}) {
		t.Error("Sub of 0", l)
	}
}

// P4.1: Of.
func TestOf(t *testing.T) {
	if m := mask.Of(); m != 0 {
		t.Error("Of()", m)
	}
	for _, list := range lists() {
		if m, want := mask.Of(list...), sumOf(heldOnce(list)); m != want {
			t.Errorf("Of(%v) = %x, not %x", list, m, want)
		}
	}
	for _, i := range farNumbers() {
		if m := mask.Of(i); m != 0 {
			t.Errorf("Of(%d) = %x", i, m)
		}
	}
}

func TestOfLongList(t *testing.T) {
	long := make([]int, 1<<20)
	for i := range long {
		long[i] = i%200 - 100
	}
	if m := mask.Of(long...); m != all {
		t.Errorf("Of of a long list = %x", m)
	}
}

// P4.1: Full.
func TestFull(t *testing.T) {
	for n := 1; n <= 63; n++ {
		if m, want := mask.Full(n), power(n)-1; m != want {
			t.Errorf("Full(%d) = %x, not %x", n, m, want)
		}
	}
	for _, n := range []int{0, -1, -63, -64, -65, -1 << 32, math.MinInt32, math.MinInt + 1, math.MinInt} {
		if m := mask.Full(n); m != 0 {
			t.Errorf("Full(%d) = %x", n, m)
		}
	}
	for _, n := range []int{64, 65, 127, 128, 129, 256, 1 << 32, 1<<32 + 3, math.MaxInt32, math.MaxInt - 1, math.MaxInt} {
		if m := mask.Full(n); m != all {
			t.Errorf("Full(%d) = %x", n, m)
		}
	}
}

// P4.1: Has, at each number and at those that no mask holds.
func TestHas(t *testing.T) {
	for _, m := range masks() {
		list := numbersOf(m)
		for i := -130; i <= 130; i++ {
			if got, want := mask.Has(m, i), slices.Contains(list, i); got != want {
				t.Fatalf("Has(%x, %d) = %v", m, i, got)
			}
		}
		for _, i := range farNumbers() {
			if mask.Has(m, i) {
				t.Fatalf("Has(%x, %d)", m, i)
			}
		}
	}
}

// P4.1: Count, List, Each tell the same numbers.
func TestNumbers(t *testing.T) {
	for _, m := range masks() {
		want := numbersOf(m)
		if n := mask.Count(m); n != len(want) {
			t.Errorf("Count(%x) = %d, not %d", m, n, len(want))
		}
		if l := mask.List(m); !slices.Equal(l, want) {
			t.Errorf("List(%x) = %v", m, l)
		}
		if l := slices.Collect(mask.Each(m)); !slices.Equal(l, want) {
			t.Errorf("Each(%x) gives %v", m, l)
		}
	}
}

// P4.1: Nth, at each place, at one more than the last, and far off.
func TestNth(t *testing.T) {
	for _, m := range masks() {
		list := numbersOf(m)
		for k, want := range list {
			if i := mask.Nth(m, k); i != want {
				t.Fatalf("Nth(%x, %d) = %d, not %d", m, k, i, want)
			}
		}
		for _, k := range append(farNumbers(), len(list), len(list)+1) {
			if i := mask.Nth(m, k); i != -1 {
				t.Fatalf("Nth(%x, %d) = %d", m, k, i)
			}
		}
	}
}

// P4.1 and P4.3: Sub of masks that have few enough numbers to gather all.
func TestSub(t *testing.T) {
	for _, m := range masks() {
		list := numbersOf(m)
		if len(list) > 10 {
			continue
		}
		if subs := slices.Collect(mask.Sub(m)); !slices.Equal(subs, subsOf(list)) {
			t.Errorf("Sub(%x) gives %x", m, subs)
		}
	}
}

// P4.3: the empty mask, one number, and masks that hold 63.
func TestSubEdges(t *testing.T) {
	const top = 1 << 63
	for i := range 64 {
		if subs := slices.Collect(mask.Sub(power(i))); !slices.Equal(subs, []uint64{0, power(i)}) {
			t.Errorf("Sub of the number %d gives %x", i, subs)
		}
	}
	if subs := slices.Collect(mask.Sub(top + 1)); !slices.Equal(subs, []uint64{0, 1, top, top + 1}) {
		t.Errorf("Sub of 0 and 63 gives %x", subs)
	}
	if subs := slices.Collect(mask.Sub(top + top/2)); !slices.Equal(subs, []uint64{0, top / 2, top, top + top/2}) {
		t.Errorf("Sub of 62 and 63 gives %x", subs)
	}
	if subs := taken(mask.Sub(all), 1000); len(subs) != 1000 {
		t.Errorf("Sub of all gives %d", len(subs))
	} else {
		for i, s := range subs {
			if s != uint64(i) {
				t.Fatalf("Sub of all gives %x as number %d", s, i)
			}
		}
	}
}

// P4.3: the count, the first, the last and the rise, for masks with more numbers, at both ends and apart.
func TestSubMany(t *testing.T) {
	for _, m := range []uint64{1<<18 - 1, all - (1<<46 - 1), 0x8888888888888888, 0x8421084210842101, 1<<63 + 1<<17 - 1} {
		n, last := 0, uint64(0)
		for s := range mask.Sub(m) {
			if n == 0 && s != 0 || n > 0 && s <= last {
				t.Fatalf("Sub(%x) gives %x behind %x", m, s, last)
			}
			if s&^m != 0 {
				t.Fatalf("Sub(%x) gives %x", m, s)
			}
			n, last = n+1, s
		}
		if n != 1<<len(numbersOf(m)) || last != m {
			t.Errorf("Sub(%x) gives %d, the last %x", m, n, last)
		}
	}
}

// The first masks of Sub where there are too many to go through: they are those of the mask's least numbers.
func TestSubBeginning(t *testing.T) {
	for _, m := range append(mixed(200), all, all-1, all-1<<63) {
		list := numbersOf(m)
		if len(list) < 11 {
			continue
		}
		want := subsOf(list[:8])
		if subs := taken(mask.Sub(m), len(want)); !slices.Equal(subs, want) {
			t.Errorf("Sub(%x) begins with %x", m, subs)
		}
	}
}

// P4.2: from a mask to its list and back.
func TestListAndBack(t *testing.T) {
	for _, m := range masks() {
		if back := mask.Of(mask.List(m)...); back != m {
			t.Errorf("Of(List(%x)...) = %x", m, back)
		}
	}
}

// P4.2: from a list to its mask and back.
func TestOfAndBack(t *testing.T) {
	for _, list := range lists() {
		if back := mask.List(mask.Of(list...)); !slices.Equal(back, heldOnce(list)) {
			t.Errorf("List(Of(%v...)) = %v", list, back)
		}
	}
}

// P4.4: a sequence that was stopped at any place, or gone through, gives the same again.
func TestEachAgain(t *testing.T) {
	for _, m := range []uint64{0, 1, 9, 1 << 63, 0x8000000000000001, all, 0x8421084210842101} {
		want := numbersOf(m)
		seq := mask.Each(m)
		for most := range len(want) + 1 {
			if l := taken(seq, most); !slices.Equal(l, want[:most]) {
				t.Errorf("Each(%x), stopped at %d, gives %v", m, most, l)
			}
			if l := slices.Collect(seq); !slices.Equal(l, want) {
				t.Errorf("Each(%x), gone through again, gives %v", m, l)
			}
		}
	}
}

func TestSubAgain(t *testing.T) {
	for _, m := range []uint64{0, 1, 9, 1 << 63, 0x8000000000000001, 0x8421} {
		want := subsOf(numbersOf(m))
		seq := mask.Sub(m)
		for most := range len(want) + 1 {
			if l := taken(seq, most); !slices.Equal(l, want[:most]) {
				t.Errorf("Sub(%x), stopped at %d, gives %x", m, most, l)
			}
			if l := slices.Collect(seq); !slices.Equal(l, want) {
				t.Errorf("Sub(%x), gone through again, gives %x", m, l)
			}
		}
	}
	seq := mask.Sub(all)
	for range 3 {
		if l := taken(seq, 4); !slices.Equal(l, []uint64{0, 1, 2, 3}) {
			t.Errorf("Sub of all, stopped, gives %x", l)
		}
	}
}

// P4.4: a sequence that is gone through within itself, each time from its beginning.
func TestNestedSequences(t *testing.T) {
	numbers, subs := mask.Each(0x8000000000000011), mask.Sub(9)
	var pairs [][2]int
	for i := range numbers {
		for j := range numbers {
			pairs = append(pairs, [2]int{i, j})
		}
	}
	want := [][2]int{{0, 0}, {0, 4}, {0, 63}, {4, 0}, {4, 4}, {4, 63}, {63, 0}, {63, 4}, {63, 63}}
	if !slices.Equal(pairs, want) {
		t.Error("Each within Each gives", pairs)
	}
	for s := range subs {
		if l := slices.Collect(subs); !slices.Equal(l, []uint64{0, 1, 8, 9}) {
			t.Errorf("Sub within Sub, at %x, gives %x", s, l)
		}
	}
}

// P4.4: what is done to one answer of List is not seen in another, in its room neither.
func TestListIsNew(t *testing.T) {
	for _, m := range []uint64{0, 9, all, 1 << 63} {
		want := numbersOf(m)
		first, second := mask.List(m), mask.List(m)
		for i := range first {
			first[i] = -7
		}
		_ = append(first, -8, -9)
		first = first[:cap(first)]
		for i := range first {
			first[i] = -7
		}
		if third := mask.List(m); !slices.Equal(second, want) || !slices.Equal(third, want) {
			t.Errorf("List(%x) shares its memory: %v, %v", m, second, third)
		}
	}
}

// P4.4: a list that is handed in stays as it is, and so does the room behind it; the mask doesn't hang on what it becomes.
func TestListHandedInStays(t *testing.T) {
	room := []int{63, 3, 64, -1, 3, 0, math.MinInt, math.MaxInt, 5, 4}
	before := slices.Clone(room)
	m := mask.Of(room[:6]...)
	if !slices.Equal(room, before) {
		t.Error("Of changed its list", room)
	}
	for i := range room {
		room[i] = 11
	}
	if want := power(63) + 9; m != want || mask.Of(before[:6]...) != want {
		t.Errorf("Of = %x", m)
	}
}
