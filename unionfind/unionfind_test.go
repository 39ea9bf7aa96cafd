package unionfind_test

import (
	"math"
	"math/rand"
	"slices"
	"testing"

	"arenanet/unionfind"
)

// most is the largest number of elements that New takes.
const most = 10000

// naive is a partition kept by another way than the program's: every element has the name of its set, and a merger renames all of one.
type naive []int

func newNaive(n int) naive {
	s := make(naive, n)
	for i := range s {
		s[i] = i
	}
	return s
}

func (s naive) has(x int) bool { return x >= 0 && x < len(s) }

func (s naive) same(a, b int) bool { return s.has(a) && s.has(b) && s[a] == s[b] }

func (s naive) union(a, b int) bool {
	if !s.has(a) || !s.has(b) || s[a] == s[b] {
		return false
	}
	from, to := s[a], s[b]
	for i, name := range s {
		if name == from {
			s[i] = to
		}
	}
	return true
}

// groups begins a group with every element that none of the smaller ones is together with.
func (s naive) groups() [][]int {
	var l [][]int
	place := map[int]int{}
	for x, name := range s {
		if _, ok := place[name]; !ok {
			place[name] = len(l)
			l = append(l, nil)
		}
		l[place[name]] = append(l[place[name]], x)
	}
	return l
}

// equal reports whether two lists of groups are the same, with the same order.
func equal(a, b [][]int) bool {
	return slices.EqualFunc(a, b, func(x, y []int) bool { return slices.Equal(x, y) })
}

func cloned(l [][]int) [][]int {
	var c [][]int
	for _, g := range l {
		c = append(c, slices.Clone(g))
	}
	return c
}

// singletons returns the groups {0}, {1} and so on.
func singletons(n int) [][]int {
	var l [][]int
	for x := range n {
		l = append(l, []int{x})
	}
	return l
}

// upTo returns the numbers from 0 to n - 1.
func upTo(n int) []int {
	var l []int
	for x := range n {
		l = append(l, x)
	}
	return l
}

// reverse returns the edges from the last to the first, each with its ends exchanged.
func reverse(edges [][2]int) [][2]int {
	var l [][2]int
	for _, e := range slices.Backward(edges) {
		l = append(l, [2]int{e[1], e[0]})
	}
	return l
}

// joined returns the partition after Union of both ends of every edge.
func joined(n int, edges [][2]int) *unionfind.Sets {
	s := unionfind.New(n)
	for _, e := range edges {
		s.Union(e[0], e[1])
	}
	return s
}

// graph is a number of vertices and edges between them.
type graph struct {
	n     int
	edges [][2]int
}

func randomGraph(r *rand.Rand, n, low, high, count int) graph {
	g := graph{n: n}
	for range count {
		g.edges = append(g.edges, [2]int{low + r.Intn(high-low+1), low + r.Intn(high-low+1)})
	}
	return g
}

// graphs returns chains, stars, circles and random graphs of several densities, the same in every run. Some have edges whose ends
// are no vertices.
func graphs() []graph {
	l := []graph{{0, nil}, {0, [][2]int{{0, 0}, {0, 1}}}, {1, nil}, {1, [][2]int{{0, 0}}}, {2, [][2]int{{1, 0}}}, {5, [][2]int{{0, 3}, {3, 4}}}, {5, [][2]int{{4, 3}, {2, 3}, {0, 1}, {1, 4}}}}
	const n = 17
	var chain, star, jumps, pairs [][2]int
	for i := range n - 1 {
		chain = append(chain, [2]int{i, i + 1})
		star = append(star, [2]int{8, (i + 9) % n})
		jumps = append(jumps, [2]int{i * 5 % n, (i + 1) * 5 % n})
		pairs = append(pairs, [2]int{i, n - 1 - i})
	}
	for _, edges := range [][][2]int{chain, star, jumps, pairs, append(slices.Clone(chain), [2]int{0, n - 1}), chain[3:9]} {
		l = append(l, graph{n, edges}, graph{n, reverse(edges)})
	}
	r := rand.New(rand.NewSource(8))
	for _, x := range []struct{ n, low, high, count int }{{1, -1, 1, 4}, {3, -1, 3, 5}, {6, 0, 5, 3}, {6, -2, 7, 8}, {24, 0, 23, 12}, {24, -3, 30, 30}, {40, 0, 39, 20}, {40, 0, 39, 39}, {40, 20, 39, 200}} {
		for range 12 {
			l = append(l, randomGraph(r, x.n, x.low, x.high, x.count))
		}
	}
	return l
}

// expectLike compares everything that can be asked of the sets, the elements just outside included.
func expectLike(t *testing.T, s *unionfind.Sets, want naive) {
	t.Helper()
	for a := -2; a < len(want)+2; a++ {
		for b := -2; b < len(want)+2; b++ {
			if got := s.Same(a, b); got != want.same(a, b) {
				t.Errorf("n = %d: Same(%d, %d) = %v, want %v", len(want), a, b, got, !got)
			}
		}
	}
	if got := s.Groups(); !equal(got, want.groups()) {
		t.Errorf("n = %d: Groups() = %v, want %v", len(want), got, want.groups())
	}
}

func TestP8_1_Examples(t *testing.T) {
	s := unionfind.New(7)
	for i, x := range []struct {
		a, b int
		want bool
	}{
		{0, 3, true}, {3, 4, true}, {0, 4, false}, {4, 0, false}, {3, 0, false}, {0, 0, false}, {6, 6, false},
		// The first and the last element are in range, their neighbours are not.
		{6, 5, true}, {6, 7, false}, {7, 6, false}, {-1, 0, false}, {0, -1, false}, {-1, -1, false}, {7, 7, false}, {-1, 7, false},
		{math.MinInt, 1, false}, {1, math.MaxInt, false}, {math.MaxInt, math.MaxInt, false}, {1 + 1<<32, 2, false},
		// Two sets of more than one element, by elements that are not their smallest.
		{4, 5, true}, {0, 6, false}, {5, 3, false}, {2, 1, true}, {2, 4, true}, {1, 6, false},
	} {
		if got := s.Union(x.a, x.b); got != x.want {
			t.Errorf("%d: Union(%d, %d) = %v", i, x.a, x.b, got)
		}
		if x.want && (!s.Same(x.a, x.b) || !s.Same(x.b, x.a)) {
			t.Errorf("%d: after Union(%d, %d) they are in two sets", i, x.a, x.b)
		}
	}
}

func TestP8_1_Singletons(t *testing.T) {
	for n := range 20 {
		s := unionfind.New(n)
		expectLike(t, s, newNaive(n))
		for _, x := range []int{math.MinInt, -1 << 32, -n - 1, -1, n, n + 1, 2*n + 1, 1 << 32, math.MaxInt} {
			if s.Same(x, x) || s.Same(x, 0) || s.Same(0, x) || s.Union(x, 0) {
				t.Errorf("New(%d): %d is in a set", n, x)
			}
		}
	}
}

// TestP8_1_Small tries every sequence of three mergers of four elements and their neighbours outside.
func TestP8_1_Small(t *testing.T) {
	const n, width = 4, 6
	const pairs = width * width
	for code := range pairs * pairs * pairs {
		s, want := unionfind.New(n), newNaive(n)
		for _, pair := range []int{code % pairs, code / pairs % pairs, code / pairs / pairs} {
			a, b := pair%width-1, pair/width-1
			if got := s.Union(a, b); got != want.union(a, b) {
				t.Fatalf("sequence %d: Union(%d, %d) = %v", code, a, b, got)
			}
		}
		expectLike(t, s, want)
	}
}

// TestP8_1_Steps compares after every merger: one that answers false has changed nothing.
func TestP8_1_Steps(t *testing.T) {
	for _, g := range graphs() {
		s, want := unionfind.New(g.n), newNaive(g.n)
		for _, e := range g.edges {
			if got := s.Union(e[0], e[1]); got != want.union(e[0], e[1]) {
				t.Errorf("%v: Union(%d, %d) = %v", g, e[0], e[1], got)
			}
			expectLike(t, s, want)
		}
	}
}

// TestP8_1_Most takes as many elements as are allowed: chains in both directions, neighbours of growing sets, and random mergers.
func TestP8_1_Most(t *testing.T) {
	var chain, blocks [][2]int
	for i := range most - 1 {
		chain = append(chain, [2]int{i, i + 1})
	}
	for size := 1; size < most; size *= 2 {
		for i := size; i < most; i += 2 * size {
			blocks = append(blocks, [2]int{min(i+size-1, most-1), i - 1})
		}
	}
	for i, edges := range [][][2]int{chain, reverse(chain), blocks, reverse(blocks)} {
		s := unionfind.New(most)
		for _, e := range edges {
			if !s.Union(e[0], e[1]) {
				t.Errorf("%d: Union(%d, %d) = false", i, e[0], e[1])
			}
		}
		for x := range most {
			if !s.Same(x, most-1) || !s.Same(0, x) || s.Union(x, most-1-x) {
				t.Errorf("%d: %d is not in the set of all", i, x)
			}
		}
		if s.Same(0, most) || s.Same(most, most) || s.Union(most, 0) {
			t.Errorf("%d: %d is in a set", i, most)
		}
		if got := s.Groups(); !equal(got, [][]int{upTo(most)}) {
			t.Errorf("%d: %d groups", i, len(got))
		}
	}
	g := randomGraph(rand.New(rand.NewSource(81)), most, 0, most-1, most/2)
	s, want := unionfind.New(g.n), newNaive(g.n)
	for _, e := range g.edges {
		if got := s.Union(e[0], e[1]); got != want.union(e[0], e[1]) {
			t.Errorf("Union(%d, %d) = %v", e[0], e[1], got)
		}
	}
	if got := s.Groups(); !equal(got, want.groups()) {
		t.Errorf("random mergers: %d groups, want %d", len(got), len(want.groups()))
	}
}

func TestP8_2_Examples(t *testing.T) {
	for _, x := range []struct {
		n     int
		edges [][2]int
		want  [][]int
	}{
		{0, nil, nil}, {1, nil, [][]int{{0}}}, {3, nil, [][]int{{0}, {1}, {2}}},
		// The order is that of the smallest elements, whatever the sets' sizes and whichever was merged first.
		{5, [][2]int{{4, 3}, {2, 1}}, [][]int{{0}, {1, 2}, {3, 4}}}, {6, [][2]int{{5, 4}, {4, 3}, {3, 1}}, [][]int{{0}, {1, 3, 4, 5}, {2}}},
		{6, [][2]int{{5, 0}, {4, 1}, {3, 2}}, [][]int{{0, 5}, {1, 4}, {2, 3}}}, {6, [][2]int{{2, 3}, {1, 4}, {0, 5}}, [][]int{{0, 5}, {1, 4}, {2, 3}}},
		// A set gets a smaller element after others, and passes those between.
		{6, [][2]int{{4, 5}, {2, 3}, {5, 1}, {3, 0}}, [][]int{{0, 2, 3}, {1, 4, 5}}}, {4, [][2]int{{3, 2}, {2, 1}, {1, 0}}, [][]int{{0, 1, 2, 3}}},
		{12, [][2]int{{11, 2}, {10, 1}, {1, 9}}, [][]int{{0}, {1, 9, 10}, {2, 11}, {3}, {4}, {5}, {6}, {7}, {8}}},
		{3, [][2]int{{0, 3}, {-1, 2}, {1, 1}}, [][]int{{0}, {1}, {2}}},
	} {
		if got := joined(x.n, x.edges).Groups(); !equal(got, x.want) {
			t.Errorf("%d elements, %v: Groups() = %v, want %v", x.n, x.edges, got, x.want)
		}
	}
}

// TestP8_2_Ordered asks the order of the answer itself.
func TestP8_2_Ordered(t *testing.T) {
	for _, g := range graphs() {
		groups := joined(g.n, g.edges).Groups()
		for i, group := range groups {
			for j := 1; j < len(group); j++ {
				if group[j-1] >= group[j] {
					t.Errorf("%v: %v is not in increasing order", g, group)
				}
			}
			if len(group) == 0 || i > 0 && groups[i-1][0] >= group[0] {
				t.Errorf("%v: %v has the wrong place in %v", g, group, groups)
			}
		}
	}
}

func TestP8_2_Most(t *testing.T) {
	s := unionfind.New(most)
	if !equal(s.Groups(), singletons(most)) {
		t.Errorf("New(%d) is not of singletons", most)
	}
	// The remainders of division by seven.
	var want [][]int
	for x := range most {
		if x < 7 {
			want = append(want, nil)
		} else {
			s.Union(x, x-7)
		}
		want[x%7] = append(want[x%7], x)
	}
	if got := s.Groups(); !equal(got, want) {
		t.Errorf("%d groups, want 7", len(got))
	}
}

func TestP8_3_Examples(t *testing.T) {
	for _, x := range []struct {
		n     int
		edges [][2]int
		want  [][]int
	}{
		{5, [][2]int{{0, 3}, {3, 4}}, [][]int{{0, 3, 4}, {1}, {2}}},
		{0, nil, nil}, {0, [][2]int{{0, 0}}, nil}, {4, nil, singletons(4)}, {4, [][2]int{}, singletons(4)},
		{4, [][2]int{{2, 2}, {1, 1}}, singletons(4)}, {4, [][2]int{{1, 2}, {2, 1}, {1, 2}}, [][]int{{0}, {1, 2}, {3}}},
		// An edge with an end that is no vertex joins nothing, and two of them do not meet there.
		{4, [][2]int{{0, 4}, {4, 1}, {-1, 2}, {3, -1}}, singletons(4)}, {3, [][2]int{{0, math.MaxInt}, {math.MinInt, 1}, {2, 0}}, [][]int{{0, 2}, {1}}},
		{6, [][2]int{{5, 3}, {0, 2}, {2, 4}, {3, 1}}, [][]int{{0, 2, 4}, {1, 3, 5}}},
	} {
		if got := unionfind.Islands(x.n, x.edges); !equal(got, x.want) {
			t.Errorf("Islands(%d, %v) = %v, want %v", x.n, x.edges, got, x.want)
		}
	}
}

func TestP8_3_LikeGroups(t *testing.T) {
	for _, g := range append(graphs(), randomGraph(rand.New(rand.NewSource(83)), most, -9, most+9, most*2/3), graph{n: most}) {
		if got, want := unionfind.Islands(g.n, g.edges), joined(g.n, g.edges).Groups(); !equal(got, want) {
			t.Errorf("Islands(%d, %v) = %v, want %v", g.n, g.edges, got, want)
		}
	}
}

func TestP8_4_EquivalenceRelation(t *testing.T) {
	for _, g := range graphs() {
		s := joined(g.n, g.edges)
		for a := range g.n {
			if !s.Same(a, a) {
				t.Errorf("%v: %d is not in its own set", g, a)
			}
			for b := range g.n {
				if s.Same(a, b) != s.Same(b, a) {
					t.Errorf("%v: Same(%d, %d) is not Same(%d, %d)", g, a, b, b, a)
				}
				for c := range g.n {
					if s.Same(a, b) && s.Same(b, c) && !s.Same(a, c) {
						t.Errorf("%v: %d and %d, %d and %d are together, but not %d and %d", g, a, b, b, c, a, c)
					}
				}
			}
		}
	}
}

// closure returns the smallest equivalence relation that contains the edges: whatever is related by way of one element more.
func closure(g graph) [][]int {
	related := make([][]int, g.n)
	for i := range related {
		related[i] = make([]int, g.n)
		related[i][i] = 1
	}
	for _, e := range g.edges {
		if min(e[0], e[1]) >= 0 && max(e[0], e[1]) < g.n {
			related[e[0]][e[1]], related[e[1]][e[0]] = 1, 1
		}
	}
	for by := range g.n {
		for a := range g.n {
			for b := range g.n {
				related[a][b] |= related[a][by] & related[by][b]
			}
		}
	}
	return related
}

func TestP8_4_Smallest(t *testing.T) {
	for _, g := range graphs() {
		s, related := joined(g.n, g.edges), closure(g)
		for a := range g.n {
			for b := range g.n {
				if got := s.Same(a, b); got != (related[a][b] == 1) {
					t.Errorf("%v: Same(%d, %d) = %v", g, a, b, got)
				}
			}
		}
	}
}

func TestP8_4_AnyOrder(t *testing.T) {
	r := rand.New(rand.NewSource(84))
	for _, g := range graphs() {
		want := joined(g.n, g.edges).Groups()
		for range 6 {
			edges := slices.Concat(g.edges, g.edges[:len(g.edges)/3])
			r.Shuffle(len(edges), func(i, j int) { edges[i], edges[j] = edges[j], edges[i] })
			for i := range edges {
				if r.Intn(2) == 0 {
					edges[i] = [2]int{edges[i][1], edges[i][0]}
				}
			}
			if got := joined(g.n, edges).Groups(); !equal(got, want) {
				t.Errorf("%d elements, %v: %v, but %v: %v", g.n, g.edges, want, edges, got)
			}
		}
	}
}

// TestP8_4_QuestionsChangeNothing asks between the mergers, which shortens ways within: the sets stay what they are.
func TestP8_4_QuestionsChangeNothing(t *testing.T) {
	r := rand.New(rand.NewSource(85))
	for _, g := range graphs() {
		quiet, asked := unionfind.New(g.n), unionfind.New(g.n)
		for _, e := range g.edges {
			if got := asked.Union(e[0], e[1]); got != quiet.Union(e[0], e[1]) {
				t.Errorf("%v: Union(%d, %d) = %v", g, e[0], e[1], got)
			}
			for range 5 {
				asked.Same(r.Intn(g.n+2)-1, r.Intn(g.n+2)-1)
			}
			asked.Groups()
		}
		if got, want := asked.Groups(), quiet.Groups(); !equal(got, want) {
			t.Errorf("%v: %v, want %v", g, got, want)
		}
	}
}

func TestP8_5_Partition(t *testing.T) {
	for _, g := range graphs() {
		s := unionfind.New(g.n)
		merged := 0
		for i := range len(g.edges) + 1 {
			groups := s.Groups()
			if len(groups) != g.n-merged {
				t.Errorf("%v: %d groups after %d mergers of %d elements", g, len(groups), merged, g.n)
			}
			if all := slices.Sorted(slices.Values(slices.Concat(groups...))); !slices.Equal(all, upTo(g.n)) {
				t.Errorf("%v: the groups %v do not hold every element once", g, groups)
			}
			if i < len(g.edges) && s.Union(g.edges[i][0], g.edges[i][1]) {
				merged++
			}
		}
	}
}

// reached returns what paths of edges lead to from a vertex.
func reached(g graph, from int) map[int]int {
	seen := map[int]int{from: 1}
	for queue := []int{from}; len(queue) > 0; queue = queue[1:] {
		for _, e := range append(slices.Clone(g.edges), reverse(g.edges)...) {
			if e[0] == queue[0] && e[1] >= 0 && e[1] < g.n && seen[e[1]] == 0 {
				seen[e[1]] = 1
				queue = append(queue, e[1])
			}
		}
	}
	return seen
}

func TestP8_5_Paths(t *testing.T) {
	for _, g := range graphs() {
		island := map[int]int{}
		for i, vertices := range unionfind.Islands(g.n, g.edges) {
			for _, v := range vertices {
				island[v] = i
			}
		}
		for a := range g.n {
			connected := reached(g, a)
			for b := range g.n {
				if (island[a] == island[b]) != (connected[b] == 1) {
					t.Errorf("%v: %d and %d are in the islands %d and %d", g, a, b, island[a], island[b])
				}
			}
		}
	}
}

// TestArgumentsStay holds Islands to rule R4: the list of edges, with what lies beyond its length, is not changed.
func TestArgumentsStay(t *testing.T) {
	for _, g := range graphs() {
		whole := slices.Concat(g.edges, [][2]int{{0, 1}, {2, 0}})
		before := slices.Clone(whole)
		unionfind.Islands(g.n, whole[:len(g.edges)])
		if !slices.Equal(whole, before) {
			t.Errorf("%v became %v", before, whole)
		}
	}
}

// spoil overwrites all groups with their spare room, and the list of them.
func spoil(groups [][]int) {
	for i, g := range groups {
		g = g[:cap(g)]
		for j := range g {
			g[j] = -7
		}
		groups[i] = nil
	}
}

// TestNewResults holds Groups and Islands to rules R4 and R5: every call answers the same, in lists of their own.
func TestNewResults(t *testing.T) {
	for _, g := range graphs() {
		s := joined(g.n, g.edges)
		first, islands := s.Groups(), unionfind.Islands(g.n, g.edges)
		want := cloned(first)
		for range 5 {
			spoil(s.Groups())
			spoil(unionfind.Islands(g.n, g.edges))
			if !equal(first, want) || !equal(islands, want) {
				t.Errorf("%v: two answers share their memory", g)
			}
			if !equal(s.Groups(), want) || !equal(unionfind.Islands(g.n, g.edges), want) {
				t.Errorf("%v: the answer is not always %v", g, want)
			}
		}
		for i := range first {
			spoil(first[i : i+1])
			if !equal(first[i+1:], want[i+1:]) {
				t.Errorf("%v: two groups of one answer share their memory", g)
			}
		}
	}
}

// TestSeparate holds two partitions apart: what is merged in one is not merged in the other.
func TestSeparate(t *testing.T) {
	one, other := unionfind.New(6), unionfind.New(6)
	one.Union(0, 5)
	other.Union(1, 2)
	if !equal(one.Groups(), [][]int{{0, 5}, {1}, {2}, {3}, {4}}) || !equal(other.Groups(), [][]int{{0}, {1, 2}, {3}, {4}, {5}}) {
		t.Errorf("%v and %v", one.Groups(), other.Groups())
	}
}

// TestOutsideTheDomain holds the calls to no result: they only have to end without a panic.
func TestOutsideTheDomain(t *testing.T) {
	wild := []int{math.MinInt, math.MinInt + 1, -most, -1, 0, 1, most - 1, most, most + 1, 1 << 31, 1 << 62, math.MaxInt}
	for _, n := range wild {
		s := unionfind.New(n)
		var edges [][2]int
		for _, a := range wild {
			for _, b := range wild {
				s.Same(a, b)
				s.Union(a, b)
				edges = append(edges, [2]int{a, b})
			}
		}
		s.Groups()
		unionfind.Islands(n, edges)
	}
}
