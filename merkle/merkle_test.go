package merkle_test

import (
	"math"
	"math/rand"
	"slices"
	"testing"

	"arenanet/api"
	"arenanet/hash64"
	"arenanet/merkle"
)

// factor is the multiplier of the hash, inverse its inverse modulo 2^64. The starts are the states after the label and the number of
// words, for the hashes of leaves and of inner nodes.
const (
	factor    = 0x9E3779B97F4A7C15
	inverse   = 0xF1DE83E19937733D
	leafStart = 0xA4DF51AF2BF1E307
	pairStart = 0x4F51CA1EBB35383C
)

var edges = []int{0, 1, -1, 2, 1 << 31, 1<<32 - 1, 1 << 32, -1 << 32, math.MaxInt, math.MaxInt - 1, math.MinInt, math.MinInt + 1}

func mixed(state, word uint64) uint64 {
	m := (state ^ word) * factor
	return m ^ m>>32
}

// unmixed takes mixing back: it returns the xor of the state and the word that were mixed.
func unmixed(state uint64) uint64 { return (state ^ state>>32) * inverse }

// rightOf works out of a node's hash and its left child's hash which hash the right child must have, leftOf the other way round.
func rightOf(parent, left uint64) uint64 { return unmixed(unmixed(parent)) ^ mixed(pairStart, left) }
func leftOf(parent, right uint64) uint64 {
	return unmixed(unmixed(unmixed(parent))^right) ^ pairStart
}

// valueOf works out of the hash of leaf i which value its cell must have.
func valueOf(hash uint64, i int) int {
	return int(unmixed(unmixed(hash)) ^ mixed(leafStart, uint64(i)))
}

// sizeOf returns the number of leaves of a tree over n cells.
func sizeOf(n int) int {
	size := 1
	for size < n {
		size *= 2
	}
	return size
}

// nodeHash is the definition by another way than the program's: from the root down, with every leaf that the size has.
func nodeHash(cells []int, from, size int) uint64 {
	switch {
	case size > 1:
		return hash64.Pair(nodeHash(cells, from, size/2), nodeHash(cells, from+size/2, size/2))
	case from < len(cells):
		return hash64.Sum("leaf", from, cells[from])
	}
	return hash64.Sum("empty")
}

func modelRoot(cells []int) uint64 { return nodeHash(cells, 0, sizeOf(len(cells))) }

// modelProof collects the siblings from the root down, and tells them from the leaf up.
func modelProof(cells []int, i int) []uint64 {
	var proof []uint64
	from := 0
	for size := sizeOf(len(cells)); size > 1; size /= 2 {
		half := size / 2
		if i < from+half {
			proof = append(proof, nodeHash(cells, from+half, half))
		} else {
			proof = append(proof, nodeHash(cells, from, half))
			from += half
		}
	}
	slices.Reverse(proof)
	return proof
}

// modelFold returns the root that follows from a leaf of a tree of some size and its proof, from the root down.
func modelFold(leaf api.Leaf, from, size int) uint64 {
	if size == 1 {
		return hash64.Sum("leaf", leaf.Index, leaf.Value)
	}
	half, last := size/2, len(leaf.Proof)-1
	below := leaf
	below.Proof = leaf.Proof[:last]
	if leaf.Index < from+half {
		return hash64.Pair(modelFold(below, from, half), leaf.Proof[last])
	}
	return hash64.Pair(leaf.Proof[last], modelFold(below, from+half, half))
}

// modelVerify is Verify for the n of the specification.
func modelVerify(root uint64, n int, leaf api.Leaf) bool {
	if leaf.Index < 0 || leaf.Index > n-1 || 1<<len(leaf.Proof) != sizeOf(n) {
		return false
	}
	return modelFold(leaf, 0, sizeOf(n)) == root
}

// forged returns a leaf that verifies though its value and the hashes of its proof but the last one are made up.
func forged(r *rand.Rand, root uint64, n, i, v int) api.Leaf {
	leaf := api.Leaf{Index: i, Value: v}
	hash := hash64.Sum("leaf", i, v)
	for size := sizeOf(n); size > 2; size /= 2 {
		sibling := r.Uint64()
		if i>>len(leaf.Proof)&1 == 0 {
			hash = hash64.Pair(hash, sibling)
		} else {
			hash = hash64.Pair(sibling, hash)
		}
		leaf.Proof = append(leaf.Proof, sibling)
	}
	if i>>len(leaf.Proof)&1 == 0 {
		leaf.Proof = append(leaf.Proof, rightOf(root, hash))
	} else {
		leaf.Proof = append(leaf.Proof, leftOf(root, hash))
	}
	return leaf
}

func randomValue(r *rand.Rand) int {
	if r.Intn(3) == 0 {
		return edges[r.Intn(len(edges))]
	}
	return int(r.Uint64())
}

func randomCells(r *rand.Rand, n int) []int {
	cells := make([]int, n)
	for i := range cells {
		cells[i] = randomValue(r)
	}
	return cells
}

// outside returns numbers that are no index of n cells.
func outside(n int) []int {
	return []int{-1, -2, -n, -n - 1, n, n + 1, sizeOf(n), 2*sizeOf(n) + 1, 1 << 16, 1 << 32, -1 << 32, math.MaxInt, math.MinInt}
}

func sameLeaf(a, b api.Leaf) bool {
	return a.Index == b.Index && a.Value == b.Value && slices.Equal(a.Proof, b.Proof)
}

func copied(leaf api.Leaf) api.Leaf {
	leaf.Proof = slices.Clone(leaf.Proof)
	return leaf
}

// sameTree compares all that a tree answers with the model's answers for the cells.
func sameTree(t *testing.T, tree *merkle.Tree, cells []int) {
	t.Helper()
	if got, want := tree.Root(), modelRoot(cells); got != want {
		t.Errorf("%v: Root() = %#X, want %#X", cells, got, want)
	}
	for i, v := range cells {
		got, want := tree.Prove(i), api.Leaf{Index: i, Value: v, Proof: modelProof(cells, i)}
		if !sameLeaf(got, want) {
			t.Errorf("%v: Prove(%d) = %v, want %v", cells, i, got, want)
		}
	}
}

// squares returns n squares.
func squares(n int) []int {
	var l []int
	for i := range n {
		l = append(l, i*i)
	}
	return l
}

// TestP11_1_Vectors has roots and proofs that were worked out outside Go.
func TestP11_1_Vectors(t *testing.T) {
	for _, x := range []struct {
		cells []int
		want  uint64
	}{
		{nil, 0x14F1FD4FAF0C1A84},
		{[]int{}, 0x14F1FD4FAF0C1A84},
		{[]int{0}, 0xFA700BE1CA891786},
		{[]int{5}, 0x17F8A0F2D5636764},
		{[]int{-1}, 0x4E9FB2177EE9A8A1},
		{[]int{5, 6}, 0x1274D33BCCBED21F},
		{[]int{6, 5}, 0xB390A9962741CDAF},
		{[]int{5, -6, 7}, 0xA98A02D687C2A565},
		// A cell of value 0 is not an empty leaf.
		{[]int{5, -6, 7, 0}, 0xB27E41C7EDB8DB23},
		{[]int{math.MinInt, math.MaxInt, 0, 1, -1}, 0x6DC9DEA42167A62B},
		{make([]int, 6), 0xFD721B01F163A652},
		{[]int{0, 1, 2, 3, 4, 5, 6, 7}, 0x2349EC8BB6F68694},
		{squares(11), 0x75FD346C99B7B17E},
		{make([]int, 17), 0x3C7C1A8483B07592},
	} {
		if got := merkle.Root(x.cells); got != x.want {
			t.Errorf("Root(%v) = %#X, want %#X", x.cells, got, x.want)
		}
		if got := merkle.New(x.cells).Root(); got != x.want {
			t.Errorf("New(%v).Root() = %#X, want %#X", x.cells, got, x.want)
		}
	}
	for _, x := range []struct {
		cells []int
		want  api.Leaf
	}{
		{[]int{5}, api.Leaf{Index: 0, Value: 5}},
		{[]int{5, -6, 7}, api.Leaf{Index: 1, Value: -6, Proof: []uint64{0x17F8A0F2D5636764, 0xE8D091091C2F3295}}},
		{[]int{5, -6, 7}, api.Leaf{Index: 2, Value: 7, Proof: []uint64{0x14F1FD4FAF0C1A84, 0x5E3C92244A0BC9C8}}},
		{squares(11), api.Leaf{Index: 10, Value: 100, Proof: []uint64{0x14F1FD4FAF0C1A84, 0x9B44C69ED477C589, 0xAB32E4FA06F41088, 0x4FAF7C4BC6D302F9}}},
	} {
		if got := merkle.New(x.cells).Prove(x.want.Index); !sameLeaf(got, x.want) {
			t.Errorf("%v: Prove(%d) = %v, want %v", x.cells, x.want.Index, got, x.want)
		}
	}
}

// TestP11_1_Great has trees of the greatest sizes, with roots that were worked out outside Go.
func TestP11_1_Great(t *testing.T) {
	for _, x := range []struct {
		n    int
		want uint64
	}{{65536, 0xB32DCAED01B82034}, {65535, 0xB96A8BE4CFBAA29D}, {32769, 0xAF68CF83FC41B1D7}, {32768, 0x369389294EEACDBB}} {
		cells := make([]int, x.n)
		for i := range cells {
			cells[i] = i*7919%65536 - 32768
		}
		tree := merkle.New(cells)
		if tree.Root() != x.want || merkle.Root(cells) != x.want {
			t.Errorf("%d cells: %#X and %#X, want %#X", x.n, tree.Root(), merkle.Root(cells), x.want)
		}
		for _, i := range []int{0, 1, x.n / 2, x.n - 2, x.n - 1} {
			cells[i] = i
			tree.Set(i, i)
			if got, want := tree.Root(), modelRoot(cells); got != want {
				t.Errorf("%d cells: after Set(%d) the root is %#X, want %#X", x.n, i, got, want)
			}
			leaf := tree.Prove(i)
			if !slices.Equal(leaf.Proof, modelProof(cells, i)) || leaf.Index != i || leaf.Value != i || !merkle.Verify(tree.Root(), x.n, leaf) {
				t.Errorf("%d cells: Prove(%d) = %v", x.n, i, leaf)
			}
		}
	}
}

func TestP11_1_Model(t *testing.T) {
	r := rand.New(rand.NewSource(11))
	for n := range 40 {
		cells := randomCells(r, n)
		tree := merkle.New(cells)
		sameTree(t, tree, cells)
		if got, want := merkle.Root(cells), modelRoot(cells); got != want {
			t.Errorf("Root(%v) = %#X, want %#X", cells, got, want)
		}
	}
}

func TestP11_1_Set(t *testing.T) {
	r := rand.New(rand.NewSource(111))
	for n := range 20 {
		cells := randomCells(r, n)
		tree := merkle.New(cells)
		for range 2 * n {
			i := r.Intn(n)
			cells[i] = randomValue(r)
			tree.Set(i, cells[i])
			sameTree(t, tree, cells)
		}
	}
}

// TestP11_1_Outside sets and proves cells that there are none of: those of empty leaves, too.
func TestP11_1_Outside(t *testing.T) {
	for _, n := range []int{0, 1, 2, 3, 4, 5, 8, 9, 31} {
		cells := squares(n)
		tree := merkle.New(cells)
		for _, i := range outside(n) {
			if 0 <= i && i < n {
				continue
			}
			if got := tree.Prove(i); got.Index != 0 || got.Value != 0 || got.Proof != nil {
				t.Errorf("%d cells: Prove(%d) = %v", n, i, got)
			}
			for _, v := range edges {
				tree.Set(i, v)
			}
			sameTree(t, tree, cells)
		}
	}
}

// TestP11_1_Copied changes what was handed in and what was answered.
func TestP11_1_Copied(t *testing.T) {
	spare := squares(12)
	cells := spare[:7]
	tree, other := merkle.New(cells), merkle.New(cells)
	for i := range spare {
		spare[i] = -1
	}
	sameTree(t, tree, squares(7))
	tree.Set(2, 99)
	sameTree(t, other, squares(7))
	for i := range spare {
		if spare[i] != -1 {
			t.Errorf("Set changed what was handed in: %v", spare)
		}
	}
	first, again := other.Prove(3), other.Prove(3)
	clear(first.Proof)
	_ = append(first.Proof, 1)
	if !slices.Equal(again.Proof, modelProof(squares(7), 3)) {
		t.Errorf("two answers of Prove share memory")
	}
	sameTree(t, other, squares(7))
}

func TestP11_2_Examples(t *testing.T) {
	leaf := merkle.New([]int{5, -6, 7}).Prove(1)
	const root = 0xA98A02D687C2A565
	change := func(index, value int, proof ...uint64) api.Leaf {
		return api.Leaf{Index: index, Value: value, Proof: proof}
	}
	a, b := leaf.Proof[0], leaf.Proof[1]
	for _, x := range []struct {
		what string
		root uint64
		n    int
		leaf api.Leaf
		want bool
	}{
		{"three cells", root, 3, leaf, true},
		{"four cells have the same size", root, 4, leaf, true},
		{"two cells", root, 2, leaf, false},
		{"five cells", root, 5, leaf, false},
		{"one cell", root, 1, leaf, false},
		{"no cells", root, 0, leaf, false},
		{"fewer than none", root, -1, leaf, false},
		{"the least number", root, math.MinInt, leaf, false},
		{"the greatest number", root, math.MaxInt, leaf, false},
		{"another root", root + 1, 3, leaf, false},
		{"root 0", 0, 3, leaf, false},
		{"another index", root, 3, change(0, -6, a, b), false},
		{"index 3", root, 4, change(3, -6, a, b), false},
		{"an index with the same way", root, 4, change(5, -6, a, b), false},
		{"a negative index", root, 4, change(-3, -6, a, b), false},
		{"the least index", root, 4, change(math.MinInt+1, -6, a, b), false},
		{"another value", root, 3, change(1, 6, a, b), false},
		{"no proof", root, 3, change(1, -6), false},
		{"a proof that is too short", root, 3, change(1, -6, a), false},
		{"a proof that is too long", root, 3, change(1, -6, a, b, 0), false},
		{"an exchanged proof", root, 3, change(1, -6, b, a), false},
		{"another proof", root, 3, change(1, -6, a, b^1), false},
		{"an inner node as a leaf", root, 2, change(1, -6, b), false},
		{"one cell with its root", 0x17F8A0F2D5636764, 1, change(0, 5), true},
		{"one cell with another value", 0x17F8A0F2D5636764, 1, change(0, 6), false},
		{"one cell with a proof", 0x17F8A0F2D5636764, 1, change(0, 5, a), false},
		{"an empty leaf is no cell", 0x14F1FD4FAF0C1A84, 0, change(0, 0), false},
	} {
		if got := merkle.Verify(x.root, x.n, x.leaf); got != x.want {
			t.Errorf("%s: Verify(%#x, %d, %v) = %v", x.what, x.root, x.n, x.leaf, got)
		}
	}
}

// TestP11_2_EmptyLeaf has proofs of leaves that are no cells of n, which would hash to the root.
func TestP11_2_EmptyLeaf(t *testing.T) {
	cells := squares(8)
	tree := merkle.New(cells)
	for i := range cells {
		leaf := tree.Prove(i)
		for n := range 20 {
			if got, want := merkle.Verify(tree.Root(), n, leaf), n >= 5 && n <= 8 && i < n; got != want {
				t.Errorf("cell %d of 8: Verify for %d cells is %v", i, n, got)
			}
		}
	}
}

// TestP11_2_ForgedIndex has leaves that hash to the root, of cells that there are and of cells that there aren't.
func TestP11_2_ForgedIndex(t *testing.T) {
	r := rand.New(rand.NewSource(1121))
	for n := 2; n < 20; n++ {
		root := r.Uint64()
		for i := range n {
			if leaf := forged(r, root, n, i, randomValue(r)); !merkle.Verify(root, n, leaf) {
				t.Errorf("%d cells: %v does not verify", n, leaf)
			}
		}
		for _, i := range outside(n) {
			if 0 <= i && i < n {
				continue
			}
			leaf := forged(r, root, n, i, randomValue(r))
			if merkle.Verify(root, n, leaf) {
				t.Errorf("%d cells: %v verifies", n, leaf)
			}
			if p, err := merkle.NewPartial(root, n, []api.Leaf{leaf}); p != nil || err != api.ErrProof {
				t.Errorf("%d cells: NewPartial of %v = %v, %d", n, leaf, p, err)
			}
		}
	}
}

// TestP11_2_OtherRoot changes each bit of the root.
func TestP11_2_OtherRoot(t *testing.T) {
	for n := 1; n < 20; n++ {
		tree := merkle.New(squares(n))
		for i := range n {
			for bit := range 64 {
				if root := tree.Root() ^ 1<<bit; merkle.Verify(root, n, tree.Prove(i)) {
					t.Errorf("%d cells: cell %d verifies with bit %d of the root changed", n, i, bit)
				}
			}
		}
	}
}

func TestP11_2_Model(t *testing.T) {
	r := rand.New(rand.NewSource(112))
	verified := 0
	for range 20000 {
		n := r.Intn(18)
		cells := randomCells(r, n)
		tree := merkle.New(cells)
		leaf, root := tree.Prove(r.Intn(n+1)), tree.Root()
		switch r.Intn(8) {
		case 0:
			leaf.Index = r.Intn(n+3) - 1
		case 1:
			leaf.Value = randomValue(r)
		case 2:
			leaf.Proof = append(leaf.Proof, r.Uint64())
		case 3:
			root = r.Uint64()
		case 4:
			n = r.Intn(20)
		case 5:
			if n > 1 {
				leaf = forged(r, root, n, r.Intn(n), randomValue(r))
			}
		}
		got, want := merkle.Verify(root, n, leaf), modelVerify(root, n, leaf)
		if got != want {
			t.Fatalf("Verify(%#x, %d, %v) = %v, want %v", root, n, leaf, got, want)
		}
		if got {
			verified++
		}
	}
	if verified < 5000 || verified > 15000 {
		t.Errorf("of 20000 leaves %d verified", verified)
	}
}

func TestP11_3_Errors(t *testing.T) {
	tree := merkle.New(squares(11))
	leaves := []api.Leaf{tree.Prove(2), tree.Prove(3), tree.Prove(10), tree.Prove(2)}
	spoil := []func(leaf *api.Leaf){
		func(leaf *api.Leaf) { leaf.Value++ },
		func(leaf *api.Leaf) { leaf.Index = 4 },
		func(leaf *api.Leaf) { leaf.Index = -1 },
		func(leaf *api.Leaf) { leaf.Index = 11 },
		func(leaf *api.Leaf) { leaf.Index = math.MaxInt },
		func(leaf *api.Leaf) { leaf.Proof[0]++ },
		func(leaf *api.Leaf) { leaf.Proof[3]++ },
		func(leaf *api.Leaf) { leaf.Proof = leaf.Proof[:3] },
		func(leaf *api.Leaf) { leaf.Proof = nil },
		func(leaf *api.Leaf) { leaf.Proof = append(leaf.Proof, 0) },
	}
	for at := range leaves {
		for k, change := range spoil {
			bad := slices.Clone(leaves)
			bad[at] = copied(bad[at])
			change(&bad[at])
			if p, err := merkle.NewPartial(tree.Root(), 11, bad); p != nil || err != api.ErrProof {
				t.Errorf("leaf %d spoilt in way %d: %v, %d", at, k, p, err)
			}
		}
	}
	for _, n := range []int{0, 1, 8, 10, 17, 65536, -1, math.MinInt, math.MaxInt} {
		if p, err := merkle.NewPartial(tree.Root(), n, leaves); p != nil || err != api.ErrProof {
			t.Errorf("for %d cells: %v, %d", n, p, err)
		}
	}
	if p, err := merkle.NewPartial(tree.Root()^1<<63, 11, leaves); p != nil || err != api.ErrProof {
		t.Errorf("for another root: %v, %d", p, err)
	}
	if p, err := merkle.NewPartial(tree.Root(), 11, leaves); p == nil || err != api.OK {
		t.Errorf("for good leaves: %v, %d", p, err)
	}
}

// TestP11_3_TwoValues has leaves of one cell that all verify, with the same value or with different ones, next to each other or not.
func TestP11_3_TwoValues(t *testing.T) {
	r := rand.New(rand.NewSource(113))
	for range 300 {
		n := 2 + r.Intn(20)
		tree := merkle.New(randomCells(r, n))
		i := r.Intn(n)
		value := tree.Prove(i).Value
		leaves := []api.Leaf{tree.Prove(i), tree.Prove((i + 1) % n), tree.Prove((i + n/2) % n)}
		for _, v := range []int{value, value + 1, 0} {
			more := append(slices.Clone(leaves), forged(r, tree.Root(), n, i, v))
			if !merkle.Verify(tree.Root(), n, more[3]) {
				t.Fatalf("the forged leaf %v does not verify", more[3])
			}
			r.Shuffle(len(more), func(a, b int) { more[a], more[b] = more[b], more[a] })
			p, err := merkle.NewPartial(tree.Root(), n, more)
			if v != value && (p != nil || err != api.ErrProof) {
				t.Errorf("cell %d with values %d and %d: %v, %d", i, value, v, p, err)
			}
			if v != value {
				continue
			}
			// Only the proofs differ: nothing is promised of the root then, but the cell is known.
			if p == nil || err != api.OK {
				t.Fatalf("cell %d twice with the value %d: %v, %d", i, v, p, err)
			}
			if got, ok := p.Get(i); got != value || !ok || !p.Set(i, 4) {
				t.Errorf("cell %d: Get() = %d, %v", i, got, ok)
			}
			if got, ok := p.Get(i); got != 4 || !ok {
				t.Errorf("cell %d: after Set Get() = %d, %v", i, got, ok)
			}
		}
	}
}

func TestP11_3_NoLeaves(t *testing.T) {
	for _, n := range []int{0, 1, 2, 11, 65536} {
		for _, root := range []uint64{0, 7, math.MaxUint64} {
			for _, leaves := range [][]api.Leaf{nil, {}} {
				p, err := merkle.NewPartial(root, n, leaves)
				if p == nil || err != api.OK {
					t.Fatalf("NewPartial(%d, %d) = %v, %d", root, n, p, err)
				}
				for _, i := range append(outside(n), 0) {
					if v, ok := p.Get(i); v != 0 || ok || p.Set(i, 5) {
						t.Errorf("NewPartial(%d, %d): cell %d is known: %d, %v", root, n, i, v, ok)
					}
				}
				if p.Root() != root {
					t.Errorf("NewPartial(%d, %d): the root is %d", root, n, p.Root())
				}
			}
		}
	}
}

// partialOf returns the partial tree of some cells of a tree over n cells.
func partialOf(t *testing.T, tree *merkle.Tree, n int, known ...int) *merkle.Partial {
	t.Helper()
	var leaves []api.Leaf
	for _, i := range known {
		leaves = append(leaves, tree.Prove(i))
	}
	p, err := merkle.NewPartial(tree.Root(), n, leaves)
	if p == nil || err != api.OK {
		t.Fatalf("NewPartial of the cells %v = %v, %d", known, p, err)
	}
	return p
}

func TestP11_4_Examples(t *testing.T) {
	cells := squares(11)
	p := partialOf(t, merkle.New(cells), 11, 2, 3, 10)
	if p.Root() != 0x75FD346C99B7B17E {
		t.Errorf("the root is %#X", p.Root())
	}
	for _, x := range []struct {
		i, v  int
		known bool
	}{
		{3, 7, true}, {10, 1, true}, {4, 1, false}, {2, 5, true}, {3, 7, true}, {11, 1, false}, {3, 9, true}, {15, 1, false}, {16, 1, false}, {0, 1, false},
		{-1, 1, false}, {3, math.MinInt, true}, {10, math.MaxInt, true}, {math.MinInt, 1, false}, {math.MaxInt, 1, false}, {3 + 1<<32, 1, false}, {2, 0, true}, {2, 4, true},
	} {
		if got := p.Set(x.i, x.v); got != x.known {
			t.Errorf("Set(%d, %d) = %v", x.i, x.v, got)
		}
		if x.known {
			cells[x.i] = x.v
		}
		for i := -2; i < 20; i++ {
			want, known := 0, i == 2 || i == 3 || i == 10
			if known {
				want = cells[i]
			}
			if got, ok := p.Get(i); got != want || ok != known {
				t.Errorf("after Set(%d, %d), Get(%d) = %d, %v, want %d, %v", x.i, x.v, i, got, ok, want, known)
			}
		}
		if got, want := p.Root(), modelRoot(cells); got != want {
			t.Errorf("after Set(%d, %d) the root is %#X, want %#X", x.i, x.v, got, want)
		}
	}
}

// TestP11_4_OneCell has a known cell of value 0, which is not an unknown one, and no sibling.
func TestP11_4_OneCell(t *testing.T) {
	p := partialOf(t, merkle.New([]int{0}), 1, 0)
	if v, ok := p.Get(0); v != 0 || !ok {
		t.Errorf("Get(0) = %d, %v", v, ok)
	}
	if p.Root() != 0xFA700BE1CA891786 || !p.Set(0, 5) || p.Root() != 0x17F8A0F2D5636764 || p.Set(1, 5) {
		t.Errorf("the root is %#X", p.Root())
	}
}

// TestP11_4_Foreign has a root that no list of cells was hashed to: its proofs are made up, but fit each other.
func TestP11_4_Foreign(t *testing.T) {
	r := rand.New(rand.NewSource(114))
	for range 200 {
		a, b, right := r.Uint64(), r.Uint64(), r.Uint64()
		leaf1, leaf2 := hash64.Sum("leaf", 1, 10), hash64.Sum("leaf", 2, 20)
		left, middle := hash64.Pair(a, leaf1), hash64.Pair(leaf2, b)
		root := hash64.Pair(hash64.Pair(left, middle), right)
		leaves := []api.Leaf{{Index: 1, Value: 10, Proof: []uint64{a, middle, right}}, {Index: 2, Value: 20, Proof: []uint64{b, left, right}}}
		p, err := merkle.NewPartial(root, 6, leaves)
		if err != api.OK || p.Root() != root {
			t.Fatalf("NewPartial = %v, %d", p, err)
		}
		p.Set(2, 21)
		middle = hash64.Pair(hash64.Sum("leaf", 2, 21), b)
		if got, want := p.Root(), hash64.Pair(hash64.Pair(left, middle), right); got != want {
			t.Errorf("after Set(2) the root is %#X, want %#X", got, want)
		}
		p.Set(1, 11)
		left = hash64.Pair(a, hash64.Sum("leaf", 1, 11))
		if got, want := p.Root(), hash64.Pair(hash64.Pair(left, middle), right); got != want {
			t.Errorf("after Set(1) the root is %#X, want %#X", got, want)
		}
	}
}

func TestP11_5_Completeness(t *testing.T) {
	r := rand.New(rand.NewSource(115))
	for n := range 70 {
		cells := randomCells(r, n)
		tree := merkle.New(cells)
		for range 3 {
			for i := range n {
				if leaf := tree.Prove(i); !merkle.Verify(tree.Root(), n, leaf) || leaf.Index != i || leaf.Value != cells[i] {
					t.Errorf("%v: Prove(%d) = %v does not verify", cells, i, leaf)
				}
			}
			if n > 0 {
				i := r.Intn(n)
				cells[i] = randomValue(r)
				tree.Set(i, cells[i])
			}
		}
	}
}

// TestP11_6_OneValue goes from the root down to the only leaf hash that fits a proof, and works out of it the only value.
func TestP11_6_OneValue(t *testing.T) {
	r := rand.New(rand.NewSource(116))
	for n := 1; n < 40; n++ {
		tree := merkle.New(randomCells(r, n))
		for i := range n {
			leaf := tree.Prove(i)
			hash := tree.Root()
			for level := len(leaf.Proof) - 1; level >= 0; level-- {
				if i>>level&1 == 0 {
					hash = leftOf(hash, leaf.Proof[level])
				} else {
					hash = rightOf(hash, leaf.Proof[level])
				}
			}
			if got := valueOf(hash, i); got != leaf.Value {
				t.Errorf("%d cells: cell %d would be %d, want %d", n, i, got, leaf.Value)
			}
			others := slices.Clone(edges)
			for bit := range 64 {
				others = append(others, leaf.Value^1<<bit)
			}
			for _, v := range others {
				if got := merkle.Verify(tree.Root(), n, api.Leaf{Index: i, Value: v, Proof: leaf.Proof}); got != (v == leaf.Value) {
					t.Errorf("%d cells: cell %d with the value %d instead of %d: %v", n, i, v, leaf.Value, got)
				}
			}
		}
	}
}

// TestP11_6_OneElement changes each bit of each element of a proof, and each element as a whole.
func TestP11_6_OneElement(t *testing.T) {
	r := rand.New(rand.NewSource(1161))
	for n := 2; n < 36; n++ {
		tree := merkle.New(randomCells(r, n))
		for i := range n {
			leaf := tree.Prove(i)
			for level, old := range leaf.Proof {
				others := []uint64{0, math.MaxUint64, r.Uint64(), old + 1, hash64.Sum("empty"), leaf.Proof[0], tree.Root()}
				for bit := range 64 {
					others = append(others, old^1<<bit)
				}
				for _, x := range others {
					leaf.Proof[level] = x
					if got := merkle.Verify(tree.Root(), n, leaf); got != (x == old) {
						t.Errorf("%d cells: cell %d with %#x instead of %#x at %d: %v", n, i, x, old, level, got)
					}
				}
				leaf.Proof[level] = old
			}
		}
	}
}

// TestP11_7_Partial assigns the same to trees and to partial trees of all sets of their cells.
func TestP11_7_Partial(t *testing.T) {
	r := rand.New(rand.NewSource(117))
	for n := 1; n <= 6; n++ {
		for set := range 1 << n {
			var known []int
			for i := range n {
				if set>>i&1 == 1 {
					known = append(known, i)
				}
			}
			r.Shuffle(len(known), func(a, b int) { known[a], known[b] = known[b], known[a] })
			tree := merkle.New(randomCells(r, n))
			p := partialOf(t, tree, n, known...)
			for range 3 * len(known) {
				i, v := known[r.Intn(len(known))], randomValue(r)
				tree.Set(i, v)
				if !p.Set(i, v) || p.Root() != tree.Root() {
					t.Errorf("%d cells, known %v: after Set(%d, %d) the root is %#X, want %#X", n, known, i, v, p.Root(), tree.Root())
				}
			}
		}
	}
}

// TestP11_7_Great has many known cells of many.
func TestP11_7_Great(t *testing.T) {
	r := rand.New(rand.NewSource(1171))
	for _, n := range []int{33, 100, 1000, 32769, 65536} {
		cells := randomCells(r, n)
		tree := merkle.New(cells)
		known := r.Perm(n)[:min(n, 60)]
		p := partialOf(t, tree, n, append(known, known[:5]...)...)
		for range 200 {
			i, v := known[r.Intn(len(known))], randomValue(r)
			tree.Set(i, v)
			if got, ok := p.Get(i); got != cells[i] || !ok {
				t.Errorf("%d cells: Get(%d) = %d, %v, want %d", n, i, got, ok, cells[i])
			}
			cells[i] = v
			if !p.Set(i, v) || p.Root() != tree.Root() {
				t.Errorf("%d cells: after Set(%d, %d) the root is %#X, want %#X", n, i, v, p.Root(), tree.Root())
			}
		}
	}
}

// TestP11_8_FinalValues comes to the same values on different ways.
func TestP11_8_FinalValues(t *testing.T) {
	r := rand.New(rand.NewSource(118))
	for range 300 {
		n := 1 + r.Intn(20)
		cells, final := randomCells(r, n), randomCells(r, n)
		known := r.Perm(n)[:1+r.Intn(n)]
		want := slices.Clone(cells)
		for _, i := range known {
			want[i] = final[i]
		}
		for range 3 {
			tree := merkle.New(cells)
			p := partialOf(t, tree, n, known...)
			for range r.Intn(10) {
				i, v := known[r.Intn(len(known))], randomValue(r)
				tree.Set(i, v)
				p.Set(i, v)
			}
			for _, k := range r.Perm(len(known)) {
				tree.Set(known[k], final[known[k]])
				p.Set(known[k], final[known[k]])
			}
			if tree.Root() != modelRoot(want) || p.Root() != modelRoot(want) {
				t.Errorf("%v with %v known: the roots are %#X and %#X, want %#X", want, known, tree.Root(), p.Root(), modelRoot(want))
			}
		}
	}
}

func TestP11_8_OldValue(t *testing.T) {
	r := rand.New(rand.NewSource(1181))
	for n := 1; n < 20; n++ {
		cells := randomCells(r, n)
		tree := merkle.New(cells)
		p := partialOf(t, tree, n, r.Perm(n)...)
		old := tree.Root()
		for i, v := range cells {
			tree.Set(i, v+1)
			p.Set(i, v+1)
			if tree.Root() == old || p.Root() == old {
				t.Errorf("%d cells: another value of cell %d has the same root", n, i)
			}
			tree.Set(i, v)
			p.Set(i, v)
			if tree.Root() != old || p.Root() != old {
				t.Errorf("%d cells: the old value of cell %d gives the roots %#X and %#X, want %#X", n, i, tree.Root(), p.Root(), old)
			}
		}
	}
}

// TestArgumentsStay is rule R4: the arguments are neither changed nor kept.
func TestArgumentsStay(t *testing.T) {
	tree := merkle.New(squares(11))
	leaves := []api.Leaf{tree.Prove(2), tree.Prove(9), tree.Prove(3)}
	spare := append(slices.Clone(leaves), tree.Prove(5))
	p, err := merkle.NewPartial(tree.Root(), 11, spare[:3])
	if err != api.OK {
		t.Fatal(err)
	}
	p.Set(2, 1)
	p.Set(9, 1)
	for i, x := range append(slices.Clone(leaves), tree.Prove(5)) {
		if !sameLeaf(spare[i], x) {
			t.Errorf("leaf %d became %v", i, spare[i])
		}
	}
	for i := range spare {
		clear(spare[i].Proof)
	}
	clear(spare)
	tree.Set(2, 8)
	tree.Set(9, 1)
	if v, ok := p.Get(3); v != 9 || !ok || !p.Set(2, 8) || p.Root() != tree.Root() {
		t.Errorf("the partial tree holds on to its argument: Get(3) = %d, %v", v, ok)
	}
	proof := append(tree.Prove(1).Proof, 77)
	merkle.Verify(tree.Root(), 11, api.Leaf{Index: 1, Value: 1, Proof: proof[:4]})
	if want := append(tree.Prove(1).Proof, 77); !slices.Equal(proof, want) {
		t.Errorf("Verify changed the proof to %v", proof)
	}
}

// TestNilAndEmpty is rule R4: nil and empty are equivalent.
func TestNilAndEmpty(t *testing.T) {
	root := merkle.Root([]int{5})
	for _, proof := range [][]uint64{nil, {}} {
		leaf := api.Leaf{Index: 0, Value: 5, Proof: proof}
		if p, err := merkle.NewPartial(root, 1, []api.Leaf{leaf}); !merkle.Verify(root, 1, leaf) || p == nil || err != api.OK {
			t.Errorf("a proof of no elements does not verify: %d", err)
		}
	}
}

// TestApart is rule R5: trees of the same cells don't share anything.
func TestApart(t *testing.T) {
	tree := merkle.New(squares(5))
	first, second := partialOf(t, tree, 5, 0, 4), partialOf(t, tree, 5, 0, 4)
	first.Set(4, 1)
	second.Set(0, 1)
	tree.Set(0, 2)
	if got, want := first.Root(), modelRoot([]int{0, 1, 4, 9, 1}); got != want {
		t.Errorf("the first root is %#X, want %#X", got, want)
	}
	if got, want := second.Root(), modelRoot([]int{1, 1, 4, 9, 16}); got != want {
		t.Errorf("the second root is %#X, want %#X", got, want)
	}
	sameTree(t, tree, []int{2, 1, 4, 9, 16})
}
