package dawg_test

import (
	"fmt"
	"math"
	"math/big"
	"slices"
	"strings"
	"testing"

	"rebus/alpha"
	"rebus/api"
	"rebus/dawg"
	"rebus/lexicon"
)

// numbers are ints that may be handed in, about each limit and at the ends of all ints.
var numbers = []int{math.MinInt, math.MinInt + 1, -1 << 32, -65536, -256, -64, -2, -1, 0, 1, 2, 3, 31, 32, 33, 62, 63, 64, 65, 127, 128, 255, 256, 257, 999, 1000, 1001, 32999, 33000, 33001, 65535, 65536, 65537, 99999, 100000, 100001, 1 << 32, 1<<32 + 1, math.MaxInt - 1, math.MaxInt}

// lots draws numbers that are the same in every run.
type lots uint64

func (l *lots) below(n int) int {
	*l = *l*6364136223846793005 + 1442695040888963407
	return int(uint64(*l) >> 33 % uint64(n))
}

// shuffle lays the list in another order.
func shuffle[T any](l *lots, list []T) {
	for i := len(list) - 1; i > 0; i-- {
		k := l.below(i + 1)
		list[i], list[k] = list[k], list[i]
	}
}

// edge and node are short for api's.
func edge(letter, to int) api.Edge { return api.Edge{Letter: letter, To: to} }

func node(final bool, edges ...api.Edge) api.Node { return api.Node{Final: final, Edges: edges} }

// isAhead tells whether p stands ahead of q in the order of texts.
func isAhead(p, q []int) bool {
	for i := range q {
		if i == len(p) {
			return true
		}
		if p[i] != q[i] {
			return p[i] < q[i]
		}
	}
	return false
}

// inTexts has the words in the order of texts, each once.
func inTexts(words [][]int) [][]int {
	var list [][]int
	there := map[string]bool{}
	for _, word := range words {
		if !there[fmt.Sprint(word)] {
			there[fmt.Sprint(word)] = true
			list = append(list, word)
		}
	}
	slices.SortFunc(list, func(p, q []int) int {
		if isAhead(p, q) {
			return -1
		}
		return 1
	})
	return list
}

// isSame tells whether the nodes are the same.
func isSame(p, q []api.Node) bool {
	return slices.EqualFunc(p, q, func(a, b api.Node) bool {
		return a.Final == b.Final && slices.Equal(a.Edges, b.Edges)
	})
}

// cloneNodes and cloneWords share no memory with what they are given.
func cloneNodes(nodes []api.Node) []api.Node {
	list := slices.Clone(nodes)
	for i := range list {
		list[i].Edges = slices.Clone(list[i].Edges)
	}
	return list
}

func cloneWords(words [][]int) [][]int {
	list := slices.Clone(words)
	for i := range list {
		list[i] = slices.Clone(list[i])
	}
	return list
}

// wantBuild is the chapter's Build: a node is a set of words' ends, which all that can stand behind some beginning are.
func wantBuild(words [][]int) ([]api.Node, int, api.Errno) {
	if len(words) > 1000 {
		return nil, 0, 111
	}
	for i, word := range words {
		if len(word) > 32 || slices.ContainsFunc(word, func(n int) bool { return n < 0 || n > 63 }) {
			return nil, i, 35
		}
	}
	sets := [][][]int{inTexts(words)}
	numbers := map[string]int{fmt.Sprint(sets[0]): 0}
	var nodes []api.Node
	for i := 0; i < len(sets); i++ {
		var at api.Node
		behind := map[int][][]int{}
		for _, ends := range sets[i] {
			if len(ends) == 0 {
				at.Final = true
			} else {
				behind[ends[0]] = append(behind[ends[0]], ends[1:])
			}
		}
		for letter := range 64 {
			if len(behind[letter]) == 0 {
				continue
			}
			key := fmt.Sprint(behind[letter])
			if _, ok := numbers[key]; !ok {
				numbers[key] = len(sets)
				sets = append(sets, behind[letter])
			}
			at.Edges = append(at.Edges, edge(letter, numbers[key]))
		}
		nodes = append(nodes, at)
	}
	return nodes, 0, 0
}

// The conditions of a well formed list, in the order of the chapter's words.
var conditions = []struct {
	name string
	hold func(nodes []api.Node) bool
}{
	{"a node", func(nodes []api.Node) bool { return len(nodes) > 0 }},
	{"at most 33000", func(nodes []api.Node) bool { return len(nodes) <= 33000 }},
	{"letters rise", func(nodes []api.Node) bool {
		return eachEdge(nodes, func(i, k int, e api.Edge) bool { return k == 0 || nodes[i].Edges[k-1].Letter < e.Letter })
	}},
	{"letters 0 to 63", func(nodes []api.Node) bool {
		return eachEdge(nodes, func(i, k int, e api.Edge) bool { return e.Letter >= 0 && e.Letter <= 63 })
	}},
	{"to a node", func(nodes []api.Node) bool {
		return eachEdge(nodes, func(i, k int, e api.Edge) bool { return e.To >= 0 && e.To < len(nodes) })
	}},
	{"no way back", func(nodes []api.Node) bool {
		ways := waysOf(nodes)
		return !slices.ContainsFunc(nodesOf(nodes), func(i int) bool { return ways[i][i] })
	}},
	{"reached", func(nodes []api.Node) bool {
		ways := waysOf(nodes)
		return !slices.ContainsFunc(nodesOf(nodes), func(i int) bool { return i > 0 && !ways[0][i] })
	}},
	{"a final one is reached", func(nodes []api.Node) bool {
		ways := waysOf(nodes)
		return !slices.ContainsFunc(nodesOf(nodes), func(i int) bool {
			return i > 0 && !nodes[i].Final && !slices.ContainsFunc(nodesOf(nodes), func(k int) bool { return ways[i][k] && nodes[k].Final })
		})
	}},
	{"not alike", func(nodes []api.Node) bool {
		for i := range nodes {
			for k := range i {
				if isSame(nodes[i:i+1], nodes[k:k+1]) {
					return false
				}
			}
		}
		return true
	}},
	{"by rows", func(nodes []api.Node) bool {
		met := []int{0}
		eachEdge(nodes, func(i, k int, e api.Edge) bool {
			if e.To >= 0 && e.To < len(nodes) && !slices.Contains(met, e.To) {
				met = append(met, e.To)
			}
			return true
		})
		for i := range met {
			if met[i] != i {
				return false
			}
		}
		return true
	}},
}

// nodesOf are the nodes' numbers.
func nodesOf(nodes []api.Node) []int {
	var list []int
	for i := range nodes {
		list = append(list, i)
	}
	return list
}

// eachEdge tells whether it holds of all edges.
func eachEdge(nodes []api.Node, holds func(i, k int, e api.Edge) bool) bool {
	all := true
	for i := range nodes {
		for k, e := range nodes[i].Edges {
			all = holds(i, k, e) && all
		}
	}
	return all
}

// waysOf tells from which node a way of an edge or more leads to which.
func waysOf(nodes []api.Node) [][]bool {
	n := len(nodes)
	ways := make([][]bool, n)
	for i := range ways {
		ways[i] = make([]bool, n)
		for _, e := range nodes[i].Edges {
			if e.To >= 0 && e.To < n {
				ways[i][e.To] = true
			}
		}
	}
	for by := range n {
		for i := range n {
			for k := range n {
				ways[i][k] = ways[i][k] || ways[i][by] && ways[by][k]
			}
		}
	}
	return ways
}

// broken are the conditions that don't hold.
func broken(nodes []api.Node) []string {
	var names []string
	for _, x := range conditions {
		if !x.hold(nodes) {
			names = append(names, x.name)
		}
	}
	return names
}

// wantWords are all words of a well formed list, in the order of texts.
func wantWords(nodes []api.Node) [][]int {
	var words [][]int
	var down func(at int, word []int)
	down = func(at int, word []int) {
		if nodes[at].Final {
			words = append(words, slices.Clone(word))
		}
		for _, e := range nodes[at].Edges {
			down(e.To, append(slices.Clone(word), e.Letter))
		}
	}
	down(0, nil)
	return inTexts(words)
}

// compareWords holds what is asked of a well formed list against the words that it should take.
func compareWords(t *testing.T, nodes []api.Node, words [][]int) {
	t.Helper()
	if e := dawg.Check(nodes); e != api.OK {
		t.Fatalf("Check(%v) = %d", nodes, e)
	}
	if n := dawg.Count(nodes); n != len(words) {
		t.Fatalf("Count(%v) = %d, want %d", nodes, n, len(words))
	}
	for i, word := range words {
		if !dawg.Has(nodes, word) {
			t.Fatalf("Has(%v, %v) = false", nodes, word)
		}
		if got, ok := dawg.Nth(nodes, i); !slices.Equal(got, word) || !ok {
			t.Fatalf("Nth(%v, %d) = %v, %v, want %v", nodes, i, got, ok, word)
		}
		if k, ok := dawg.Rank(nodes, word); k != i || !ok {
			t.Fatalf("Rank(%v, %v) = %d, %v, want %d", nodes, word, k, ok, i)
		}
	}
	for _, k := range []int{-1, len(words), len(words) + 1} {
		if word, ok := dawg.Nth(nodes, k); len(word) != 0 || ok {
			t.Fatalf("Nth(%v, %d) = %v, %v", nodes, k, word, ok)
		}
	}
}

// compareNone holds a word that isn't taken against false and 0.
func compareNone(t *testing.T, nodes []api.Node, word []int) {
	t.Helper()
	if dawg.Has(nodes, word) {
		t.Fatalf("Has(%v, %v)", nodes, word)
	}
	if k, ok := dawg.Rank(nodes, word); k != 0 || ok {
		t.Fatalf("Rank(%v, %v) = %d, %v", nodes, word, k, ok)
	}
}

// compareRefused holds what is asked of a list that isn't well formed against nothing.
func compareRefused(t *testing.T, nodes []api.Node) {
	t.Helper()
	if e := dawg.Check(nodes); e != 110 {
		t.Fatalf("Check(%v) = %d", nodes, e)
	}
	if n := dawg.Count(nodes); n != 0 {
		t.Fatalf("Count(%v) = %d", nodes, n)
	}
	for _, k := range []int{-1, 0, 1} {
		if word, ok := dawg.Nth(nodes, k); len(word) != 0 || ok {
			t.Fatalf("Nth(%v, %d) = %v, %v", nodes, k, word, ok)
		}
	}
	for _, word := range [][]int{nil, {0}, {1}, {0, 0}} {
		compareNone(t, nodes, word)
	}
}

// compareList holds all that is asked of any short list against the chapter.
func compareList(t *testing.T, nodes []api.Node) {
	t.Helper()
	if len(broken(nodes)) > 0 {
		compareRefused(t, nodes)
		return
	}
	compareWords(t, nodes, wantWords(nodes))
}

// compareBuild holds Build of the words, and what is asked of its answer, against the chapter.
func compareBuild(t *testing.T, words [][]int) {
	t.Helper()
	nodes, at, e := dawg.Build(words)
	want, wantAt, wantE := wantBuild(words)
	if !isSame(nodes, want) || at != wantAt || e != wantE {
		t.Fatalf("Build(%v) = %v, %d, %d, want %v, %d, %d", words, nodes, at, e, want, wantAt, wantE)
	}
	if e == api.OK {
		compareWords(t, nodes, inTexts(words))
	}
}

// P11.1: the chapter's examples.
func TestExamples(t *testing.T) {
	nodes, at, e := dawg.Build([][]int{{0, 1}, {2, 1}})
	want := []api.Node{node(false, edge(0, 1), edge(2, 1)), node(false, edge(1, 2)), node(true)}
	if !isSame(nodes, want) || at != 0 || e != api.OK {
		t.Error(nodes, at, e)
	}
	if n := dawg.Count(nodes); n != 2 {
		t.Error("Count", n)
	}
	if word, ok := dawg.Nth(nodes, 1); !slices.Equal(word, []int{2, 1}) || !ok {
		t.Error("Nth", word, ok)
	}
	if k, ok := dawg.Rank(nodes, []int{2, 1}); k != 1 || !ok {
		t.Error("Rank", k, ok)
	}
	if dawg.Has(nodes, []int{0}) {
		t.Error("Has")
	}
	empty, at, e := dawg.Build([][]int{{}})
	if !isSame(empty, []api.Node{node(true)}) || at != 0 || e != api.OK || dawg.Count(empty) != 1 {
		t.Error(empty, at, e)
	}
	if word, ok := dawg.Nth(empty, 0); len(word) != 0 || !ok {
		t.Error("Nth", word, ok)
	}
	if e := dawg.Check([]api.Node{node(true), node(true)}); e != api.ErrNodes {
		t.Error("Check", e)
	}
	if dawg.MaxNodes != 33000 {
		t.Error(dawg.MaxNodes)
	}
}

// P11.1: no word at all.
func TestBuildNothing(t *testing.T) {
	for _, words := range [][][]int{nil, {}} {
		nodes, at, e := dawg.Build(words)
		if !isSame(nodes, []api.Node{node(false)}) || at != 0 || e != api.OK {
			t.Fatal(nodes, at, e)
		}
		compareWords(t, nodes, nil)
		compareNone(t, nodes, nil)
		compareNone(t, nodes, []int{0})
	}
}

// P11.1: lists that are refused, and several faults at once, in the chapter's order.
func TestBuildRefused(t *testing.T) {
	fine := slices.Repeat([][]int{{1, 2}}, 999)
	for _, x := range []struct {
		why   string
		words [][]int
		at    int
		e     api.Errno
	}{
		{"1001 words", append(slices.Clone(fine), []int{1}, []int{2}), 0, api.ErrWords},
		{"1001 times a word", slices.Repeat([][]int{{1}}, 1001), 0, api.ErrWords},
		{"1001 times the empty word", make([][]int, 1001), 0, api.ErrWords},
		{"many words", make([][]int, 1<<20), 0, api.ErrWords},
		{"too many words ahead of a letter", append([][]int{{64}, {1}}, fine...), 0, api.ErrWords},
		{"too many words ahead of a long one", append(slices.Clone(fine), []int{1}, make([]int, 33)), 0, api.ErrWords},
		{"33 cells", [][]int{make([]int, 33)}, 0, api.ErrNumber},
		{"33 cells, not first", [][]int{make([]int, 32), {1}, make([]int, 33)}, 2, api.ErrNumber},
		{"many cells", [][]int{{1}, make([]int, 1<<20)}, 1, api.ErrNumber},
		{"a letter below 0", [][]int{{0}, {0, -1}}, 1, api.ErrNumber},
		{"a letter past 63", [][]int{{63}, {63, 63, 64}}, 1, api.ErrNumber},
		{"a word that stands twice, refused at its first place", [][]int{{5}, {64}, {5}, {64}}, 1, api.ErrNumber},
		{"the last of 1000", append(slices.Clone(fine), []int{-1}), 999, api.ErrNumber},
		{"the first fault, a letter", [][]int{{1}, {64}, make([]int, 33)}, 1, api.ErrNumber},
		{"the first fault, a length", [][]int{{1}, {2}, make([]int, 33), {64}}, 2, api.ErrNumber},
		{"both in one word", [][]int{{1}, slices.Repeat([]int{64}, 33)}, 1, api.ErrNumber},
		{"the last letter of 32", [][]int{nil, append(make([]int, 31), 64)}, 1, api.ErrNumber},
	} {
		nodes, at, e := dawg.Build(x.words)
		if len(nodes) != 0 || at != x.at || e != x.e {
			t.Errorf("%s: %v, %d, %d, want %d, %d", x.why, nodes, at, e, x.at, x.e)
		}
	}
	for _, n := range numbers {
		for _, word := range [][]int{{n}, {63, 0, n}, {n, 0}, {0, n, 0}} {
			compareBuild(t, [][]int{{1, 2}, word, {0}, {64}})
			compareBuild(t, [][]int{word})
		}
	}
}

// P11.1, P11.2: lists that are taken, about each limit.
func TestBuildTaken(t *testing.T) {
	var all, long [][]int
	for letter := range 64 {
		all = append(all, []int{letter})
		long = append(long, append(slices.Repeat([]int{letter}, 31), 63-letter))
	}
	for _, words := range [][][]int{
		{nil, {}},
		make([][]int, 1000),
		all,
		long,
		append(slices.Clone(all), long...),
		{{0}, {}},
		{{0}, {0, 0}, {0, 0, 0}, {}},
		{{63}, {0}, {63, 63}, {0, 63}},
		{make([]int, 32)},
		{make([]int, 32), make([]int, 31), make([]int, 1), append(make([]int, 31), 63)},
		{{1, 2, 3}, {1, 2, 3}, {4, 2, 3}, {4, 2, 3, 3}, {2, 3}, {1, 2, 3}},
		// Other nodes than the next row's are met again.
		{{0, 1}, {1, 0, 1}, {1, 1}, {2, 1, 0, 1}},
	} {
		compareBuild(t, words)
	}
}

// P11.1, P11.2: the most nodes that there can be of words: each of its own behind the first cells.
func TestBuildGreatest(t *testing.T) {
	l := lots(3)
	var words [][]int
	for i := range 1000 {
		word := []int{i % 64, i / 64}
		for len(word) < 32 {
			word = append(word, l.below(64))
		}
		words = append(words, word)
	}
	nodes, at, e := dawg.Build(words)
	want, _, _ := wantBuild(words)
	if !isSame(nodes, want) || at != 0 || e != api.OK {
		t.Fatal("Build", len(nodes), len(want), at, e)
	}
	if len(nodes) < 20000 || len(nodes) > dawg.MaxNodes {
		t.Error("no number of nodes to be a test", len(nodes))
	}
	compareMany(t, nodes, []int{-1, 0, 1, 500, 998, 999, 1000}, [][]int{words[0], words[999], words[500][1:], words[500][:31], nil})
}

// subsets calls with every sublist of the words.
func subsets(words [][]int, call func(list [][]int)) {
	for set := range 1 << len(words) {
		var list [][]int
		for i, word := range words {
			if set>>i%2 == 1 {
				list = append(list, word)
			}
		}
		call(list)
	}
}

// allWords are the words of at most so many cells, of so many letters.
func allWords(cells, letters int) [][]int {
	words := [][]int{nil}
	for from := 0; cells > 0; cells-- {
		to := len(words)
		for _, word := range words[from:to] {
			for letter := range letters {
				words = append(words, append(slices.Clone(word), letter))
			}
		}
		from = to
	}
	return words
}

// P11.1, P11.2, P11.3: every list of short words.
func TestAllShortWords(t *testing.T) {
	for _, words := range [][][]int{allWords(2, 3), allWords(3, 2)[1:]} {
		subsets(words, func(list [][]int) {
			nodes, at, e := dawg.Build(list)
			want, _, _ := wantBuild(list)
			if !isSame(nodes, want) || at != 0 || e != api.OK {
				t.Fatalf("Build(%v) = %v, %d, %d, want %v", list, nodes, at, e, want)
			}
			if len(broken(nodes)) > 0 {
				t.Fatalf("Build(%v) = %v: %q", list, nodes, broken(nodes))
			}
			compareWords(t, nodes, inTexts(list))
			for _, word := range words {
				if dawg.Has(nodes, word) != slices.ContainsFunc(list, func(x []int) bool { return slices.Equal(x, word) }) {
					t.Fatalf("Has(%v, %v)", nodes, word)
				}
			}
		})
	}
}

// drawn draws words of few beginnings and ends, which are put together.
func drawn(l *lots) [][]int {
	letters := 1 + l.below(5)
	pieces := [][]int{nil}
	for range 1 + l.below(8) {
		var piece []int
		for range l.below(6) {
			piece = append(piece, l.below(letters)*(1+l.below(13)))
		}
		pieces = append(pieces, piece)
	}
	var words [][]int
	for range l.below(40) {
		var word []int
		for range 1 + l.below(5) {
			word = append(word, pieces[l.below(len(pieces))]...)
		}
		words = append(words, word)
	}
	return words
}

// P11.1, P11.2, P11.3: drawn lists, in another order, with words twice.
func TestDrawnWords(t *testing.T) {
	l := lots(1)
	for range 1500 {
		words := drawn(&l)
		compareBuild(t, words)
		nodes, _, _ := dawg.Build(words)
		if len(broken(nodes)) > 0 {
			t.Fatalf("%v: %q", nodes, broken(nodes))
		}
		for range 3 {
			more := slices.Clone(words)
			for range l.below(20) {
				if len(words) > 0 {
					more = append(more, words[l.below(len(words))])
				}
			}
			shuffle(&l, more)
			if again, at, e := dawg.Build(more); !isSame(again, nodes) || at != 0 || e != api.OK {
				t.Fatalf("Build(%v) = %v, %d, %d, want %v", more, again, at, e, nodes)
			}
		}
		for _, word := range drawn(&l) {
			isThere := slices.ContainsFunc(words, func(x []int) bool { return slices.Equal(x, word) })
			if dawg.Has(nodes, word) != isThere {
				t.Fatalf("Has(%v, %v)", nodes, word)
			}
			if !isThere {
				compareNone(t, nodes, word)
			}
		}
	}
}

// P11.2: all orders of a list are the same automaton.
func TestAllOrders(t *testing.T) {
	words := [][]int{{1, 0}, {0, 1, 0}, nil, {2, 0}, {1, 0}, {2}}
	want, _, _ := wantBuild(words)
	var down func(n int)
	down = func(n int) {
		if n == len(words) {
			if nodes, at, e := dawg.Build(words); !isSame(nodes, want) || at != 0 || e != api.OK {
				t.Fatalf("Build(%v) = %v, %d, %d", words, nodes, at, e)
			}
		}
		for i := n; i < len(words); i++ {
			words[n], words[i] = words[i], words[n]
			down(n + 1)
			words[n], words[i] = words[i], words[n]
		}
	}
	down(0)
}

// P11.1: a list that breaks just one of the conditions is refused; one that breaks none, near by, is taken.
func TestEachCondition(t *testing.T) {
	for _, x := range []struct {
		name  string
		nodes []api.Node
	}{
		{"a node", nil},
		{"a node", []api.Node{}},

		{"", []api.Node{node(false, edge(0, 1), edge(1, 1)), node(true)}},
		{"letters rise", []api.Node{node(false, edge(1, 1), edge(0, 1)), node(true)}},
		{"letters rise", []api.Node{node(false, edge(0, 1), edge(0, 1)), node(true)}},
		{"letters rise", []api.Node{node(false, edge(0, 1), edge(0, 2)), node(true), node(true, edge(0, 1))}},
		{"letters rise", []api.Node{node(false, edge(2, 1), edge(5, 1), edge(4, 1)), node(true)}},
		{"letters rise", []api.Node{node(false, edge(0, 1)), node(true, edge(63, 2), edge(62, 2)), node(true)}},
		{"letters rise", []api.Node{node(false, edge(0, 1)), node(true, edge(63, 2), edge(63, 2)), node(true)}},

		{"", []api.Node{node(false, edge(0, 1), edge(63, 1)), node(true)}},
		{"letters 0 to 63", []api.Node{node(false, edge(-1, 1)), node(true)}},
		{"letters 0 to 63", []api.Node{node(false, edge(0, 1), edge(64, 1)), node(true)}},
		{"letters 0 to 63", []api.Node{node(false, edge(256, 1)), node(true)}},
		{"letters 0 to 63", []api.Node{node(false, edge(math.MinInt, 1), edge(0, 1)), node(true)}},
		{"letters 0 to 63", []api.Node{node(false, edge(math.MaxInt, 1)), node(true)}},
		{"letters 0 to 63", []api.Node{node(false, edge(0, 1)), node(true, edge(64, 2)), node(true)}},

		{"to a node", []api.Node{node(false, edge(0, 1))}},
		{"to a node", []api.Node{node(true, edge(0, -1))}},
		{"to a node", []api.Node{node(false, edge(0, 1), edge(1, 2)), node(true)}},
		{"to a node", []api.Node{node(false, edge(0, -1), edge(1, 1)), node(true)}},
		{"to a node", []api.Node{node(false, edge(0, 1)), node(true, edge(0, 65537))}},
		{"to a node", []api.Node{node(false, edge(0, 1)), node(true, edge(0, math.MinInt), edge(1, 2)), node(true)}},
		{"to a node", []api.Node{node(false, edge(0, 1)), node(true, edge(63, math.MaxInt))}},

		{"no way back", []api.Node{node(true, edge(0, 0))}},
		{"no way back", []api.Node{node(false, edge(0, 1)), node(true, edge(0, 1))}},
		{"no way back", []api.Node{node(false, edge(0, 1)), node(true, edge(0, 0))}},
		{"no way back", []api.Node{node(false, edge(0, 1)), node(true, edge(0, 1), edge(1, 2)), node(true)}},
		{"no way back", []api.Node{node(false, edge(0, 1)), node(false, edge(0, 2)), node(false, edge(0, 3)), node(true, edge(0, 1))}},
		{"no way back", []api.Node{node(false, edge(0, 1), edge(1, 2)), node(false, edge(0, 3)), node(false, edge(0, 1)), node(true, edge(7, 2))}},
		{"no way back", []api.Node{node(false, edge(0, 1)), node(false, edge(0, 2)), node(true, edge(0, 0))}},

		{"", []api.Node{node(true)}},
		{"", []api.Node{node(false)}},
		{"", []api.Node{node(true), node(false), node(true)}[:1]}, // what is behind the list isn't of it
		{"reached", []api.Node{node(false), node(true)}},
		{"reached", []api.Node{node(false, edge(0, 1)), node(true), node(true, edge(0, 1))}},
		{"reached", []api.Node{node(false, edge(0, 1)), node(true), node(false, edge(0, 1), edge(1, 1)), node(false, edge(3, 1))}},
		{"reached", []api.Node{node(true, edge(0, 1)), node(true), node(true, edge(1, 1))}},

		{"a final one is reached", []api.Node{node(false, edge(0, 1)), node(false)}},
		{"a final one is reached", []api.Node{node(true, edge(0, 1)), node(false)}},
		{"a final one is reached", []api.Node{node(false, edge(0, 1)), node(true, edge(0, 2)), node(false)}},
		{"a final one is reached", []api.Node{node(false, edge(0, 1), edge(1, 2)), node(false, edge(5, 2)), node(false)}},
		{"a final one is reached", []api.Node{node(false, edge(0, 1), edge(1, 2)), node(true), node(false)}},
		{"a final one is reached", []api.Node{node(false, edge(0, 1), edge(1, 2)), node(true), node(false, edge(0, 3)), node(false)}},

		{"", []api.Node{node(false, edge(0, 1), edge(1, 2)), node(true), node(true, edge(0, 1))}},
		{"not alike", []api.Node{node(false, edge(0, 1), edge(1, 2)), node(true), node(true)}},
		{"not alike", []api.Node{node(false, edge(0, 1), edge(1, 2)), {Final: true}, {Final: true, Edges: []api.Edge{}}}},
		{"not alike", []api.Node{node(false, edge(0, 1), edge(1, 2)), node(false, edge(4, 3)), node(false, edge(4, 3)), node(true)}},
		{"not alike", []api.Node{node(false, edge(0, 1), edge(1, 2)), node(true, edge(4, 3), edge(5, 3)), node(true, edge(4, 3), edge(5, 3)), node(true)}},
		{"", []api.Node{node(false, edge(0, 1), edge(1, 2)), node(true, edge(4, 3)), node(false, edge(4, 3)), node(true)}},
		{"", []api.Node{node(false, edge(0, 1), edge(1, 2)), node(true, edge(4, 3)), node(true, edge(5, 3)), node(true)}},
		{"", []api.Node{node(false, edge(0, 1), edge(1, 2)), node(true, edge(4, 3), edge(5, 3)), node(true, edge(4, 3)), node(true)}},

		{"by rows", []api.Node{node(false, edge(0, 2), edge(1, 1)), node(true), node(true, edge(0, 1))}},
		{"by rows", []api.Node{node(false, edge(0, 2)), node(true), node(false, edge(0, 1))}},
		{"by rows", []api.Node{node(false, edge(0, 1)), node(true, edge(0, 3), edge(1, 2)), node(true), node(true, edge(0, 2))}},
		{"by rows", []api.Node{node(false, edge(0, 1), edge(1, 3)), node(false, edge(0, 2)), node(true), node(true, edge(5, 2))}},
		{"", []api.Node{node(false, edge(0, 1), edge(1, 2)), node(false, edge(0, 3)), node(true, edge(5, 3)), node(true)}},
		{"", []api.Node{node(false, edge(0, 1), edge(1, 2)), node(true), node(false, edge(0, 3)), node(true, edge(0, 1))}},
	} {
		names := broken(x.nodes)
		if strings.Join(names, "; ") != x.name {
			t.Fatalf("%v breaks %q, not %q: a wrong test", x.nodes, names, x.name)
		}
		compareList(t, x.nodes)
	}
}

// P11.1: edges with any number for a letter, or leading to any number.
func TestAnyEdges(t *testing.T) {
	for _, to := range numbers {
		for _, nodes := range [][]api.Node{
			{node(false, edge(0, to))},
			{node(true, edge(0, to))},
			{node(false, edge(0, to)), node(true)},
			{node(false, edge(0, 1), edge(1, to)), node(true)},
			{node(false, edge(0, 1)), node(true, edge(63, to))},
			{node(false, edge(0, 1)), node(true, edge(0, to)), node(true)},
		} {
			compareList(t, nodes)
		}
	}
	for _, letter := range numbers {
		for _, nodes := range [][]api.Node{
			{node(false, edge(letter, 1)), node(true)},
			{node(false, edge(0, 1), edge(letter, 1)), node(true)},
			{node(false, edge(letter, 1), edge(63, 1)), node(true)},
			{node(false, edge(0, 1)), node(true, edge(letter, 2)), node(true)},
		} {
			compareList(t, nodes)
		}
	}
}

// lists calls with every list of n nodes, each one of these.
func lists(n int, pool []api.Node, call func(nodes []api.Node)) {
	nodes := make([]api.Node, n)
	var down func(i int)
	down = func(i int) {
		if i == n {
			call(nodes)
			return
		}
		for _, x := range pool {
			nodes[i] = x
			down(i + 1)
		}
	}
	down(0)
}

// P11.1, P11.3, P0: every list of at most two nodes with two edges at most, right or wrong ones in any order.
func TestAllShortLists(t *testing.T) {
	for n := range 3 {
		var edges []api.Edge
		for letter := range 2 {
			for to := -1; to <= n; to++ {
				edges = append(edges, edge(letter, to))
			}
		}
		pool := []api.Node{node(false), node(true)}
		for _, e := range edges {
			pool = append(pool, node(false, e), node(true, e))
			for _, f := range edges {
				pool = append(pool, node(false, e, f), node(true, e, f))
			}
		}
		lists(n, pool, func(nodes []api.Node) { compareList(t, nodes) })
	}
}

// P11.1, P11.3: every list of at most four nodes whose edges have two letters and lead to nodes; many are well formed.
func TestAllRightEdges(t *testing.T) {
	taken := 0
	for n := 1; n <= 4; n++ {
		var pool []api.Node
		for first := range n {
			for second := range n {
				var edges []api.Edge
				if first > 0 {
					edges = append(edges, edge(0, first))
				}
				if second > 0 {
					edges = append(edges, edge(1, second))
				}
				pool = append(pool, node(false, edges...), node(true, edges...))
			}
		}
		lists(n, pool, func(nodes []api.Node) {
			want := len(broken(nodes)) == 0
			if e := dawg.Check(nodes); (e == api.OK) != want || !want && e != api.ErrNodes {
				t.Fatalf("Check(%v) = %d, but it breaks %q", nodes, e, broken(nodes))
			}
			if want {
				taken++
				compareWords(t, nodes, wantWords(nodes))
				// There is just one such automaton of these words.
				if again, _, _ := dawg.Build(wantWords(nodes)); !isSame(again, nodes) {
					t.Fatalf("Build(%v) = %v, want %v", wantWords(nodes), again, nodes)
				}
			}
		})
	}
	if taken < 900 {
		t.Error("too few well formed lists to be a test", taken)
	}
}

// spoilt changes one small thing of the list.
func spoilt(l *lots, nodes []api.Node) []api.Node {
	nodes = cloneNodes(nodes)
	i, k := l.below(len(nodes)), l.below(len(nodes))
	switch l.below(8) {
	case 0:
		nodes[i].Final = !nodes[i].Final
	case 1:
		nodes[i], nodes[k] = nodes[k], nodes[i]
	case 2:
		nodes = append(nodes, nodes[i])
	case 3:
		nodes = nodes[:i]
	case 4:
		nodes[i].Edges = append(nodes[i].Edges, edge(l.below(66)-1, l.below(len(nodes)+2)-1))
	default:
		if n := len(nodes[i].Edges); n > 0 {
			e := &nodes[i].Edges[l.below(n)]
			switch l.below(4) {
			case 0:
				e.Letter = l.below(66) - 1
			case 1:
				e.To = k
			case 2:
				e.To = l.below(len(nodes)+2) - 1
			case 3:
				nodes[i].Edges = nodes[i].Edges[1:]
			}
		}
	}
	return nodes
}

// P11.1, P0: automata with a small thing changed, or two.
func TestSpoiltLists(t *testing.T) {
	l := lots(2)
	for range 6000 {
		words := drawn(&l)
		nodes, _, e := dawg.Build(words[:min(len(words), 1+l.below(9))])
		if e != api.OK {
			continue
		}
		nodes = spoilt(&l, nodes)
		compareList(t, nodes)
		if len(nodes) > 0 {
			compareList(t, spoilt(&l, nodes))
		}
	}
}

// chain is a list of n nodes, one behind the other, so many edges between.
func chain(n, edges int) []api.Node {
	nodes := make([]api.Node, n)
	for i := range n - 1 {
		for letter := range edges {
			nodes[i].Edges = append(nodes[i].Edges, edge(letter, i+1))
		}
	}
	nodes[n-1].Final = true
	return nodes
}

// P11.1, P0: lists about the limit of nodes.
func TestMostNodes(t *testing.T) {
	for _, n := range []int{32999, 33000, 33001, 33002, 65537, 66000, 1 << 20} {
		nodes := chain(n, 1)
		word := make([]int, n-1)
		if n > 33000 {
			compareRefused(t, nodes)
			compareNone(t, nodes, word)
			continue
		}
		compareWords(t, nodes, [][]int{word})
		compareNone(t, nodes, word[1:])
		compareNone(t, nodes, append(slices.Clone(word), 0))
		compareNone(t, nodes, append(slices.Clone(word[1:]), 1))
		// The last node again, far ahead of it; then with an edge.
		nodes[0].Edges = append(nodes[0].Edges, edge(1, 2))
		nodes[1] = node(true)
		compareRefused(t, nodes)
		nodes[1] = node(true, edge(0, 3))
		compareWords(t, nodes, [][]int{{0}, word[1:], append([]int{1}, word[2:]...)})
		nodes[n-1].Edges = []api.Edge{edge(0, 1)}
		compareRefused(t, nodes)
	}
}

// exact is for each node how many words it takes, whatever the number.
func exact(nodes []api.Node) []*big.Int {
	ways := make([]*big.Int, len(nodes))
	var down func(at int) *big.Int
	down = func(at int) *big.Int {
		if ways[at] == nil {
			n := big.NewInt(0)
			if nodes[at].Final {
				n.SetInt64(1)
			}
			for _, e := range nodes[at].Edges {
				n.Add(n, down(e.To))
			}
			ways[at] = n
		}
		return ways[at]
	}
	down(0)
	return ways
}

// exactAhead is how many words stand ahead of this one, whatever the number; -1, if it isn't taken.
func exactAhead(nodes []api.Node, ways []*big.Int, word []int) *big.Int {
	ahead, at := big.NewInt(0), 0
	for _, letter := range word {
		if nodes[at].Final {
			ahead.Add(ahead, big.NewInt(1))
		}
		to := -1
		for _, e := range nodes[at].Edges {
			if e.Letter < letter {
				ahead.Add(ahead, ways[e.To])
			} else if e.Letter == letter {
				to = e.To
			}
		}
		if to < 0 {
			return big.NewInt(-1)
		}
		at = to
	}
	if !nodes[at].Final {
		return big.NewInt(-1)
	}
	return ahead
}

// most is MaxWays.
var most = big.NewInt(100000)

// compareMany holds a well formed list of any number of words against what the chapter asks, by these numbers and words.
func compareMany(t *testing.T, nodes []api.Node, ks []int, words [][]int) {
	t.Helper()
	ways := exact(nodes)
	count := 100000
	if ways[0].Cmp(most) < 0 {
		count = int(ways[0].Int64())
	}
	if n := dawg.Count(nodes); n != count || dawg.Check(nodes) != api.OK {
		t.Fatalf("Count = %d, want %d", n, count)
	}
	for _, k := range ks {
		word, ok := dawg.Nth(nodes, k)
		if ok != (k >= 0 && k < count) || !ok && len(word) != 0 {
			t.Fatalf("Nth(%d) of %d = %v, %v", k, count, word, ok)
		}
		if !ok {
			continue
		}
		if ahead := exactAhead(nodes, ways, word); ahead.Cmp(big.NewInt(int64(k))) != 0 {
			t.Fatalf("Nth(%d) has %v ahead", k, ahead)
		}
		words = append(words, word)
	}
	for _, word := range words {
		ahead := exactAhead(nodes, ways, word)
		want, wantOK := 0, ahead.Sign() >= 0 && ahead.Cmp(most) < 0
		if wantOK {
			want = int(ahead.Int64())
		}
		if k, ok := dawg.Rank(nodes, word); k != want || ok != wantOK {
			t.Fatalf("Rank(%v) = %d, %v, want %d, %v (%v)", word, k, ok, want, wantOK, ahead)
		}
		if dawg.Has(nodes, word) != (ahead.Sign() >= 0) {
			t.Fatalf("Has(%v)", word)
		}
	}
}

// letters is the word with n times that letter.
func letters(n, letter int) []int { return slices.Repeat([]int{letter}, n) }

// P11.1, P11.3: automata with as many words as are counted, one less, one more, and ever so many more.
func TestManyWords(t *testing.T) {
	tens := chain(6, 10) // 10 times 10, five times: 100000
	plus := cloneNodes(tens)
	plus[0].Final = true // the empty word ahead of all
	less := cloneNodes(plus)
	less[0].Edges = less[0].Edges[:9]
	ks := append([]int{99998, 50000, 12345}, numbers...)
	for _, x := range []struct {
		why   string
		nodes []api.Node
		last  []int // the last word of all
		ahead int   // how many stand ahead of it, where they are counted
	}{
		{"100000", tens, letters(5, 9), 99999},
		{"100001", plus, letters(5, 9), -1},
		{"90001", less, []int{8, 9, 9, 9, 9}, 90000},
		{"64 times 64 times 64", chain(4, 64), letters(3, 63), -1},
		{"2 to the 17th", chain(18, 2), letters(17, 1), -1},
		{"2 to the 16th", chain(17, 2), letters(16, 1), 65535},
		{"2 to the 32nd", chain(33, 2), letters(32, 1), -1},
		{"2 to the 63rd", chain(64, 2), letters(63, 1), -1},
		{"2 to the 64th", chain(65, 2), letters(64, 1), -1},
		{"64 to the 11th", chain(12, 64), letters(11, 63), -1},
		{"2 to the 32999th", chain(33000, 2), letters(32999, 1), -1},
	} {
		k, ok := dawg.Rank(x.nodes, x.last)
		if ok != (x.ahead >= 0) || k != max(x.ahead, 0) {
			t.Errorf("%s: Rank of the last = %d, %v", x.why, k, ok)
		}
		words := [][]int{nil, x.last, letters(len(x.last), 0), x.last[1:], append(slices.Clone(x.last), 0)}
		for i := range min(len(x.last), 40) {
			word := letters(len(x.last), 0)
			word[len(word)-1-i] = 1
			words = append(words, word)
		}
		some := ks
		if len(x.nodes) > 1000 {
			some = []int{-1, 0, 1, 12345, 65535, 65536, 99998, 99999, 100000, 100001, math.MaxInt}
			words = words[:12]
		}
		compareMany(t, x.nodes, some, words)
	}
}

// P11.1, P11.3: each final node stands ahead of what follows it: many words that begin one another.
func TestBeginnings(t *testing.T) {
	for _, n := range []int{2, 17, 1000, 33000} {
		nodes := chain(n, 1)
		for i := range nodes {
			nodes[i].Final = true
		}
		var words [][]int
		for _, k := range []int{0, 1, n / 2, n - 2, n - 1, n} {
			words = append(words, make([]int, k))
		}
		compareMany(t, nodes, []int{-1, 0, 1, n / 2, n - 1, n}, words)
	}
	// Three edges and the node itself: the words ahead go past MaxWays within a node, at its first edge and at its last.
	nodes := chain(40, 3)
	for i := range nodes {
		nodes[i].Final = true
	}
	var words [][]int
	l := lots(8)
	for range 300 {
		word := make([]int, l.below(41))
		for i := l.below(len(word) + 1); i < len(word); i++ {
			word[i] = l.below(4)
		}
		words = append(words, word)
	}
	compareMany(t, nodes, append([]int{99998}, numbers...), words)
}

// P11.3: every number of an automaton that has more words than are counted: each word further behind, and its number its own.
func TestAllNumbers(t *testing.T) {
	nodes := chain(18, 2)
	for i := 9; i < 18; i++ {
		nodes[i].Final = true
	}
	var last []int
	for k := range 100001 {
		word, ok := dawg.Nth(nodes, k)
		if ok != (k < 100000) {
			t.Fatal(k, ok)
		}
		if !ok {
			break
		}
		if k > 0 && !isAhead(last, word) {
			t.Fatalf("Nth(%d) = %v behind %v", k, word, last)
		}
		if k2, ok := dawg.Rank(nodes, word); k2 != k || !ok {
			t.Fatalf("Rank(%v) = %d, %v, want %d", word, k2, ok, k)
		}
		last = word
	}
}

// settled is the well formed automaton that takes the same words; all edges rise, and lead to greater numbers.
func settled(nodes []api.Node) []api.Node {
	number := make([]int, len(nodes))
	there := map[string]int{}
	var kept []api.Node
	for i := len(nodes) - 1; i >= 0; i-- {
		at := api.Node{Final: nodes[i].Final}
		for _, e := range nodes[i].Edges {
			if number[e.To] >= 0 {
				at.Edges = append(at.Edges, edge(e.Letter, number[e.To]))
			}
		}
		number[i] = -1
		if !at.Final && len(at.Edges) == 0 {
			continue
		}
		key := fmt.Sprint(at)
		if _, ok := there[key]; !ok {
			there[key] = len(kept)
			kept = append(kept, at)
		}
		number[i] = there[key]
	}
	if number[0] < 0 {
		return []api.Node{node(false)}
	}
	met := []int{number[0]}
	var rows []api.Node
	for i := 0; i < len(met); i++ {
		at := api.Node{Final: kept[met[i]].Final}
		for _, e := range kept[met[i]].Edges {
			if !slices.Contains(met, e.To) {
				met = append(met, e.To)
			}
			at.Edges = append(at.Edges, edge(e.Letter, slices.Index(met, e.To)))
		}
		rows = append(rows, at)
	}
	return rows
}

// drawnNodes draws an automaton.
func drawnNodes(l *lots, n int) []api.Node {
	nodes := make([]api.Node, n)
	edges, gap := 1+l.below(9), 1+l.below(5)
	for i := range nodes {
		nodes[i].Final = l.below(4) == 0
		letter := -1
		for range l.below(edges + 1) {
			letter += 1 + l.below(5)
			if to := i + 1 + l.below(gap); to < n && letter < 64 {
				nodes[i].Edges = append(nodes[i].Edges, edge(letter, to))
			}
		}
	}
	nodes[n-1].Final = true
	return settled(nodes)
}

// drawnWalk draws a word by edges, mostly the last ones, and now and then by none.
func drawnWalk(l *lots, nodes []api.Node) []int {
	var word []int
	for at := 0; ; {
		edges := nodes[at].Edges
		if len(edges) == 0 || nodes[at].Final && l.below(4) == 0 || l.below(60) == 0 {
			return word
		}
		e := edges[max(l.below(len(edges)), l.below(len(edges)))]
		at = e.To
		word = append(word, e.Letter+l.below(80)/79)
	}
}

// P11.1, P11.2, P11.3: drawn automata, of a word up to ever so many.
func TestDrawnAutomata(t *testing.T) {
	l := lots(4)
	few, many := 0, 0
	for range 3000 {
		nodes := drawnNodes(&l, 1+l.below(40))
		if len(broken(nodes)) > 0 {
			t.Fatalf("%v breaks %q: a wrong test", nodes, broken(nodes))
		}
		ways := exact(nodes)
		ks := []int{-1, 0, 1, 99999, 100000, 100001}
		if ways[0].Cmp(most) < 0 {
			n := int(ways[0].Int64())
			ks = append(ks, n/2, n-1, n, n+1)
			few++
			if n <= 1000 && !slices.ContainsFunc(wantWords(nodes), func(word []int) bool { return len(word) > 32 }) {
				compareBuild(t, wantWords(nodes))
				if again, _, _ := dawg.Build(wantWords(nodes)); !isSame(again, nodes) {
					t.Fatalf("Build of the words of %v = %v", nodes, again)
				}
			}
		} else {
			many++
		}
		var words [][]int
		for range 10 {
			ks = append(ks, l.below(100000))
			words = append(words, drawnWalk(&l, nodes))
		}
		compareMany(t, nodes, ks, words)
	}
	if few < 100 || many < 100 {
		t.Error("too few automata of a kind to be a test", few, many)
	}
}

// P11.1: words with numbers that are no letters, or that have the last byte of one, are not taken.
func TestOtherLetters(t *testing.T) {
	nodes, _, _ := dawg.Build([][]int{{}, {0}, {1}, {63}, {1, 63, 2}})
	for _, n := range numbers {
		if n != 0 && n != 1 && n != 63 {
			compareNone(t, nodes, []int{n})
		}
		if n != 63 {
			compareNone(t, nodes, []int{1, n, 2})
		}
		compareNone(t, nodes, []int{1, 63, 2, n})
		compareNone(t, nodes, []int{0, n})
	}
	compareNone(t, nodes, make([]int, 1<<20))
	compareNone(t, nodes, []int{1, 63})
	for _, k := range numbers {
		word, ok := dawg.Nth(nodes, k)
		if ok != (k >= 0 && k < 5) || !ok && len(word) != 0 {
			t.Errorf("Nth(%d) = %v, %v", k, word, ok)
		}
	}
}

// roomy has the same items, and room behind them that is written over.
func roomy[T any](list []T, behind T) []T {
	return append(slices.Clone(list), behind, behind, behind)[:len(list)]
}

// P11.4: words that are handed in stay as they are, the room behind them too, and are not kept.
func TestWordsHandedIn(t *testing.T) {
	words := [][]int{{2, 1}, {0, 1}, {}, {2, 1}, {0}}
	given := roomy(words, []int{-9})
	for i := range given {
		given[i] = roomy(words[i], -7)
	}
	before := cloneWords(given)
	nodes, _, _ := dawg.Build(given)
	want := cloneNodes(nodes)
	for i := range given {
		room := given[i][:len(given[i])+3]
		if !slices.Equal(given[i], before[i]) || !slices.Equal(room[len(given[i]):], letters(3, -7)) {
			t.Fatal("a word has changed", given)
		}
	}
	for _, behind := range given[:len(given)+3][len(given):] {
		if !slices.Equal(behind, []int{-9}) {
			t.Fatal("what is behind the words has changed", behind)
		}
	}
	for i := range given {
		spoil(given[i], 5)
		given[i] = []int{64}
	}
	if !isSame(nodes, want) || dawg.Count(nodes) != 4 {
		t.Error("what was answered has changed", nodes)
	}
	refused := roomy([][]int{{3}, {2}, {64}, {1}}, []int{-9})
	dawg.Build(refused)
	if !slices.EqualFunc(refused, [][]int{{3}, {2}, {64}, {1}}, slices.Equal[[]int]) {
		t.Error("refused words have changed", refused)
	}
	word := roomy([]int{2, 1}, -7)
	dawg.Has(nodes, word)
	dawg.Rank(nodes, word)
	if !slices.Equal(word[:5], []int{2, 1, -7, -7, -7}) {
		t.Error("a word has changed", word[:5])
	}
}

// spoil writes over a list and the room behind it.
func spoil[T any](list []T, with T) {
	list = list[:cap(list)]
	for i := range list {
		list[i] = with
	}
}

// P11.4: nodes that are handed in stay as they are, and what was asked of them before a change says nothing behind it.
func TestNodesHandedIn(t *testing.T) {
	right, _, _ := dawg.Build([][]int{{0}, {0, 1}, {2, 1}, {2, 1, 1}})
	wrong := cloneNodes(right)
	wrong[1].Edges = []api.Edge{edge(1, 1)}
	for _, list := range [][]api.Node{right, wrong, chain(4, 64)} {
		given := roomy(list, node(true, edge(-9, -9)))
		for i := range given {
			given[i].Edges = roomy(list[i].Edges, edge(-7, -7))
		}
		dawg.Check(given)
		dawg.Has(given, []int{2, 1})
		dawg.Count(given)
		dawg.Nth(given, 2)
		dawg.Rank(given, []int{2, 1})
		if !isSame(given, list) {
			t.Fatal("nodes have changed", given)
		}
		for i := range given {
			room := given[i].Edges[:len(list[i].Edges)+3][len(list[i].Edges):]
			if !slices.Equal(room, slices.Repeat([]api.Edge{edge(-7, -7)}, 3)) {
				t.Fatal("what is behind the edges has changed", room)
			}
		}
		behind := given[:len(given)+3][len(given):]
		if !isSame(behind, slices.Repeat([]api.Node{node(true, edge(-9, -9))}, 3)) {
			t.Fatal("what is behind the nodes has changed", behind)
		}
	}
	nodes := cloneNodes(right)
	for range 2 {
		compareWords(t, nodes, [][]int{{0}, {0, 1}, {2, 1}, {2, 1, 1}})
		nodes[0].Final = true
		compareWords(t, nodes, [][]int{nil, {0}, {0, 1}, {2, 1}, {2, 1, 1}})
		nodes[0].Edges[1].Letter = 1
		compareWords(t, nodes, [][]int{nil, {0}, {0, 1}, {1, 1}, {1, 1, 1}})
		nodes[0].Edges[1].Letter = 0
		compareRefused(t, nodes)
		nodes[0].Final, nodes[0].Edges[1].Letter = false, 2
	}
}

// P11.4: lists that are answered are new memory, each with room of its own.
func TestAnswersAreNew(t *testing.T) {
	words := [][]int{{0, 1}, {0, 2}, {1, 1}, {1, 2}, {2, 5, 1}, {3}, nil}
	want, _, _ := wantBuild(words)
	texts := inTexts(words)
	for range 3 {
		nodes, _, _ := dawg.Build(words)
		others, _, _ := dawg.Build(words)
		for i := range nodes {
			if !slices.Equal(nodes[i].Edges, want[i].Edges) {
				t.Fatal("two nodes share edges", i, nodes)
			}
			spoil(nodes[i].Edges, edge(77, 77))
			if !isSame(nodes[i+1:], want[i+1:]) || !isSame(others, want) {
				t.Fatal("two nodes share edges", i, nodes, others)
			}
		}
		spoil(nodes, node(false, edge(77, 77)))
		if !isSame(others, want) {
			t.Fatal("two answers of Build share nodes", others)
		}
		for k := range texts {
			word, _ := dawg.Nth(others, k)
			again, _ := dawg.Nth(others, k)
			spoil(word, 77)
			if !slices.Equal(again, texts[k]) || !isSame(others, want) {
				t.Fatal("two answers of Nth share memory", again, others)
			}
		}
	}
}

// P0.2: a word list as text, as a list and as an automaton is the same words.
func TestWordLists(t *testing.T) {
	a, _, _ := alpha.New([]string{"C", "H", "CH", "A", "L", "É"})
	l := lots(6)
	for range 200 {
		text := ""
		for range l.below(30) {
			for range 1 + l.below(5) {
				text += a.Name(l.below(a.Size()))
			}
			text += fmt.Sprintf(";%d\n", l.below(101))
		}
		x, _, _ := lexicon.Read(a, text)
		var words [][]int
		for i := range x.Len() {
			words = append(words, x.Word(i).Cells)
		}
		compareBuild(t, words)
		nodes, _, _ := dawg.Build(words)
		for k := range dawg.Count(nodes) {
			word, _ := dawg.Nth(nodes, k)
			if i, ok := x.Find(word); !ok || !slices.Equal(x.Word(i).Cells, word) {
				t.Fatalf("%v is no word of %q", word, text)
			}
		}
	}
}

// P0, one answer: automata never meet, and what is refused leaves nothing behind.
func TestTwoAutomata(t *testing.T) {
	first, second := [][]int{{0, 1}, {2, 1}}, [][]int{{1}, {1, 1}, {0, 1}}
	for range 3 {
		compareBuild(t, first)
		compareBuild(t, append(slices.Clone(first), []int{64}))
		compareBuild(t, second)
		compareBuild(t, make([][]int, 1001))
		compareList(t, []api.Node{node(true), node(true)})
	}
}

// P0: lists that no call has answered, whose nodes share edges, and nodes with ever so many edges.
func TestStrangeLists(t *testing.T) {
	shared := []api.Edge{edge(0, 1), edge(1, 2), edge(2, 3), edge(3, 4)}
	for n := range 5 {
		for k := range 5 {
			compareList(t, []api.Node{{Edges: shared[:n]}, {Final: true, Edges: shared[n:]}, {Edges: shared[k:]}, {Final: true}})
			compareList(t, []api.Node{{Edges: shared[:n]}, {Edges: shared[k:]}, {Final: true, Edges: shared[3:3]}, {Final: k > 2}, {Final: true}})
		}
	}
	compareRefused(t, slices.Repeat([]api.Node{node(true, shared...)}, 33000))
	compareRefused(t, slices.Repeat([]api.Node{node(true)}, 33000))
	compareRefused(t, []api.Node{{Edges: make([]api.Edge, 1<<22)}, {Final: true}})
	for _, n := range []int{63, 64, 65, 66, 1000} {
		var edges []api.Edge
		for letter := range n {
			edges = append(edges, edge(letter, 1))
		}
		compareList(t, []api.Node{node(false, edges...), node(true)})
	}
	// The fullest of all: each node has 64 edges to the ones behind it.
	full := make([]api.Node, 33000)
	for i := range full {
		for letter := range 64 {
			if to := i + 1 + letter; to < len(full) {
				full[i].Edges = append(full[i].Edges, edge(letter, to))
			}
		}
	}
	full[len(full)-1].Final = true
	compareMany(t, full, []int{-1, 0, 99999, 100000}, [][]int{letters(515, 63), nil})
}
