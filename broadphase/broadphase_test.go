package broadphase_test

import (
	"math"
	"math/rand"
	"slices"
	"testing"

	"arenanet/api"
	"arenanet/broadphase"
)

// far is the largest absolute value that the coordinates of boxes may have.
const far = 1 << 50

// most is the largest number of boxes that Pairs takes.
const most = 1000

func box(x0, y0, x1, y1 int) api.Box { return api.Box{X0: x0, Y0: y0, X1: x1, Y1: y1} }

func point(x, y int) api.Box { return box(x, y, x, y) }

func moved(b api.Box, x, y int) api.Box { return box(b.X0+x, b.Y0+y, b.X1+x, b.Y1+y) }

// swapped returns the box with the x and y axes exchanged.
func swapped(b api.Box) api.Box { return box(b.Y0, b.X0, b.Y1, b.X1) }

// covers reports whether the point belongs to the box.
func covers(b api.Box, x, y int) bool { return b.X0 <= x && x <= b.X1 && b.Y0 <= y && y <= b.Y1 }

// share tells by another way than the program's whether two boxes overlap: then one of the points whose coordinates are those of
// the corners belongs to both.
func share(a, b api.Box) bool {
	for _, x := range []int{a.X0, a.X1, b.X0, b.X1} {
		for _, y := range []int{a.Y0, a.Y1, b.Y0, b.Y1} {
			if covers(a, x, y) && covers(b, x, y) {
				return true
			}
		}
	}
	return false
}

// wantPairs tries all pairs in their order.
func wantPairs(boxes []api.Box) [][2]int {
	var l [][2]int
	for i := range boxes {
		for j := i + 1; j < len(boxes); j++ {
			if share(boxes[i], boxes[j]) {
				l = append(l, [2]int{i, j})
			}
		}
	}
	return l
}

// grid returns every box with corners from 0 to n - 1: points and lines too.
func grid(n int) []api.Box {
	var l []api.Box
	for x0 := range n {
		for x1 := x0; x1 < n; x1++ {
			for y0 := range n {
				for y1 := y0; y1 < n; y1++ {
					l = append(l, box(x0, y0, x1, y1))
				}
			}
		}
	}
	return l
}

// randomBox returns a box with coordinates of at most size, whose sides are at most side long.
func randomBox(r *rand.Rand, size, side int) api.Box {
	x, y := r.Intn(2*size+1)-size, r.Intn(2*size+1)-size
	return box(x, y, min(x+r.Intn(side+1), size), min(y+r.Intn(side+1), size))
}

func randomBoxes(r *rand.Rand, size, side, count int) []api.Box {
	var l []api.Box
	for range count {
		l = append(l, randomBox(r, size, side))
	}
	return l
}

// lists returns lists of boxes: every box of a small grid, with many equal end points, and random boxes of several sizes and
// densities, the same in every run.
func lists() [][]api.Box {
	r := rand.New(rand.NewSource(4))
	small := grid(4)
	r.Shuffle(len(small), func(i, j int) { small[i], small[j] = small[j], small[i] })
	l := [][]api.Box{nil, {}, {point(0, 0)}, {box(-far, -far, far, far)}, grid(3), small}
	for _, x := range []struct{ size, side, count int }{
		{0, 0, 6}, {1, 1, 9}, {3, 2, 20}, {5, 10, 40}, {6, 0, 60}, {50, 9, 80}, {1000, 300, 60}, {1 << 20, 1 << 18, 40}, {far, far / 4, 50}, {far, 2 * far, 24},
	} {
		for range 4 {
			l = append(l, randomBoxes(r, x.size, x.side, x.count))
		}
	}
	return l
}

func TestP4_1_Examples(t *testing.T) {
	b := box(-2, 10, 4, 13)
	for _, x := range []struct {
		a, b api.Box
		want bool
	}{
		{box(0, 0, 2, 2), box(2, 2, 3, 3), true}, {box(0, 0, 2, 2), box(4, 0, 5, 1), false}, {box(2, 2, 3, 3), box(4, 0, 5, 1), false},
		// Sides and corners touch, or miss each other by one.
		{b, box(4, 11, 6, 12), true}, {b, box(5, 11, 6, 12), false}, {b, box(-9, 11, -2, 12), true}, {b, box(-9, 11, -3, 12), false}, {b, box(0, 13, 1, 20), true}, {b, box(0, 14, 1, 20), false}, {b, box(0, 0, 1, 10), true}, {b, box(0, 0, 1, 9), false},
		{b, box(4, 13, 9, 99), true}, {b, box(5, 13, 9, 99), false}, {b, box(4, 14, 9, 99), false}, {b, box(-9, -9, -2, 10), true}, {b, box(-9, -9, -3, 10), false}, {b, box(-9, -9, -2, 9), false},
		{b, box(-9, 13, -2, 14), true}, {b, box(-9, 14, -2, 14), false}, {b, box(4, 0, 5, 10), true}, {b, box(4, 0, 5, 9), false},
		// One contains the other, or they cross without a corner inside.
		{b, box(0, 11, 1, 12), true}, {b, box(-20, 0, 20, 20), true}, {b, box(-20, 11, 20, 12), true}, {b, box(0, 0, 1, 99), true},
		// Points and lines.
		{b, point(4, 13), true}, {b, point(0, 12), true}, {b, point(5, 13), false}, {b, point(4, 14), false}, {point(7, 7), point(7, 7), true}, {point(7, 7), point(7, 8), false}, {point(7, 7), point(6, 7), false},
		{box(0, 5, 9, 5), box(3, 0, 3, 9), true}, {box(0, 5, 9, 5), box(3, 0, 3, 4), false}, {box(0, 5, 9, 5), box(9, 5, 12, 5), true}, {box(0, 5, 9, 5), box(0, 6, 9, 6), false},
		// Only one of the axes separates them.
		{b, box(-2, 14, 4, 17), false}, {b, box(5, 10, 11, 13), false},
		{box(-far, -far, far, far), point(far, -far), true}, {box(-far, -far, far, far), point(-far, far), true}, {box(-far, -far, 0, 0), box(0, 0, far, far), true}, {box(-far, -far, 0, 0), box(1, 0, far, far), false}, {box(-far, -far, 0, 0), box(0, 1, far, far), false},
		{point(far, far), point(far, far), true}, {point(far, far), point(-far, far), false}, {point(far, far), point(far, -far), false}, {point(far, far), point(far-1, far), false}, {box(-far, 0, -far, far), box(-far, -far, far, 0), true},
	} {
		if got := broadphase.Overlap(x.a, x.b); got != x.want {
			t.Errorf("Overlap(%v, %v) = %v", x.a, x.b, got)
		}
		if got := broadphase.Overlap(x.b, x.a); got != x.want {
			t.Errorf("Overlap(%v, %v) = %v", x.b, x.a, got)
		}
	}
}

// TestP4_1_Small compares with the points themselves: small boxes overlap if a point with integer coordinates belongs to both.
func TestP4_1_Small(t *testing.T) {
	const n = 4
	for _, a := range grid(n) {
		for _, b := range grid(n) {
			want := false
			for i := range n * n {
				want = want || covers(a, i%n, i/n) && covers(b, i%n, i/n)
			}
			if got := broadphase.Overlap(a, b); got != want {
				t.Errorf("Overlap(%v, %v) = %v", a, b, got)
			}
		}
	}
}

func TestP4_1_Random(t *testing.T) {
	for _, l := range lists() {
		for i, a := range l {
			for _, b := range l[i:] {
				if got := broadphase.Overlap(a, b); got != share(a, b) {
					t.Errorf("Overlap(%v, %v) = %v", a, b, got)
				}
			}
		}
	}
}

func TestP4_2_Examples(t *testing.T) {
	for _, x := range []struct {
		boxes []api.Box
		want  [][2]int
	}{
		{nil, nil}, {[]api.Box{}, nil}, {[]api.Box{box(1, 2, 3, 4)}, nil},
		{[]api.Box{box(0, 0, 2, 2), box(2, 2, 3, 3), box(4, 0, 5, 1)}, [][2]int{{0, 1}}},
		// A box that ends where others begin, whichever comes first in the list.
		{[]api.Box{box(0, 0, 5, 1), box(5, 0, 9, 1)}, [][2]int{{0, 1}}}, {[]api.Box{box(5, 0, 9, 1), box(0, 0, 5, 1)}, [][2]int{{0, 1}}}, {[]api.Box{box(6, 0, 9, 1), box(0, 0, 5, 1)}, nil},
		{[]api.Box{box(0, 5, 1, 9), box(0, 0, 1, 5)}, [][2]int{{0, 1}}}, {[]api.Box{box(0, 6, 1, 9), box(0, 0, 1, 5)}, nil},
		// Points and lines, which begin where they end.
		{[]api.Box{point(3, 3), point(3, 3), point(3, 3)}, [][2]int{{0, 1}, {0, 2}, {1, 2}}}, {[]api.Box{point(3, 3), point(3, 4), point(4, 3), point(3, 3)}, [][2]int{{0, 3}}},
		{[]api.Box{box(3, 0, 3, 9), box(0, 4, 9, 4), point(3, 4), point(4, 4)}, [][2]int{{0, 1}, {0, 2}, {1, 2}, {1, 3}}},
		{[]api.Box{point(5, 0), box(5, 0, 9, 0), box(0, 0, 5, 0)}, [][2]int{{0, 1}, {0, 2}, {1, 2}}},
		// Pairs found from left to right are told in another order.
		{[]api.Box{box(30, 0, 40, 1), box(0, 0, 10, 1), box(8, 0, 31, 1), box(9, 0, 9, 9)}, [][2]int{{0, 2}, {1, 2}, {1, 3}, {2, 3}}},
		{[]api.Box{box(0, 0, 99, 1), box(50, 0, 60, 1), box(10, 0, 20, 1), box(30, 0, 40, 1)}, [][2]int{{0, 1}, {0, 2}, {0, 3}}},
		{[]api.Box{box(50, 0, 60, 1), box(10, 0, 20, 1), box(30, 0, 40, 1), box(0, 0, 99, 1)}, [][2]int{{0, 3}, {1, 3}, {2, 3}}},
		{[]api.Box{box(-far, -far, 0, far), box(far, far, far, far), box(0, -far, far, -far), box(1, 1-far, far, far), point(-far, far)}, [][2]int{{0, 2}, {0, 4}, {1, 3}}},
	} {
		if got := broadphase.Pairs(x.boxes); !slices.Equal(got, x.want) {
			t.Errorf("Pairs(%v) = %v, want %v", x.boxes, got, x.want)
		}
	}
}

func TestP4_2_AllPairs(t *testing.T) {
	for _, l := range lists() {
		if got, want := broadphase.Pairs(l), wantPairs(l); !slices.Equal(got, want) {
			t.Errorf("Pairs(%v) = %v, want %v", l, got, want)
		}
	}
}

// TestP4_2_Most takes as many boxes as are allowed: all overlap, none, neighbours only, and some.
func TestP4_2_Most(t *testing.T) {
	var same, apart, chain []api.Box
	for i := range most {
		same = append(same, box(-i, i-most, i, i))
		apart = append(apart, box(2*(i*7%most), -1, 2*(i*7%most)+1, 1))
		chain = append(chain, box(-i-1, 0, -i, 0))
	}
	r := rand.New(rand.NewSource(42))
	for _, x := range []struct {
		boxes []api.Box
		count int
	}{{same, most * (most - 1) / 2}, {apart, 0}, {chain, most - 1}, {randomBoxes(r, far, far/16, most), -1}, {randomBoxes(r, 100, 5, most), -1}} {
		got, want := broadphase.Pairs(x.boxes), wantPairs(x.boxes)
		if !slices.Equal(got, want) {
			t.Errorf("%d boxes from %v on: %d pairs, want %d", len(x.boxes), x.boxes[0], len(got), len(want))
		}
		if x.count >= 0 && len(got) != x.count {
			t.Errorf("%d boxes from %v on: %d pairs, want %d", len(x.boxes), x.boxes[0], len(got), x.count)
		}
	}
}

func TestP4_3_Reflexive(t *testing.T) {
	for _, l := range append(lists(), grid(5)) {
		for _, a := range l {
			if !broadphase.Overlap(a, a) {
				t.Errorf("%v does not overlap itself", a)
			}
		}
	}
}

func TestP4_3_Symmetric(t *testing.T) {
	for _, l := range lists() {
		for _, a := range l {
			for _, b := range l {
				if broadphase.Overlap(a, b) != broadphase.Overlap(b, a) {
					t.Errorf("%v and %v", a, b)
				}
			}
		}
	}
}

func TestP4_3_MovedAndSwapped(t *testing.T) {
	l := append(grid(3), randomBoxes(rand.New(rand.NewSource(43)), far/4, far/8, 40)...)
	l = append(l, randomBoxes(rand.New(rand.NewSource(44)), 9, 4, 60)...)
	for _, a := range l {
		for _, b := range l {
			want := broadphase.Overlap(a, b)
			for _, by := range [][2]int{{1, 0}, {0, -1}, {-700, 4097}, {far / 2, -far / 2}, {-far * 3 / 4, far * 3 / 4}} {
				if broadphase.Overlap(moved(a, by[0], by[1]), moved(b, by[0], by[1])) != want {
					t.Errorf("%v and %v moved by %v: not %v", a, b, by, want)
				}
			}
			if broadphase.Overlap(swapped(a), swapped(b)) != want {
				t.Errorf("%v and %v with their axes exchanged: not %v", a, b, want)
			}
		}
	}
}

// TestP4_4_CommonPoint asks with boxes of a single point: the one whose coordinates are the greatest lower ends of the three.
func TestP4_4_CommonPoint(t *testing.T) {
	found := 0
	for _, l := range lists() {
		l = l[:min(len(l), 40)]
		for _, p := range broadphase.Pairs(l) {
			for k := p[1] + 1; k < len(l); k++ {
				a, b, c := l[p[0]], l[p[1]], l[k]
				if !broadphase.Overlap(a, c) || !broadphase.Overlap(b, c) {
					continue
				}
				found++
				common := point(max(a.X0, b.X0, c.X0), max(a.Y0, b.Y0, c.Y0))
				for _, d := range []api.Box{a, b, c} {
					if !broadphase.Overlap(d, common) || !covers(d, common.X0, common.Y0) {
						t.Errorf("%v, %v and %v overlap pairwise, but %v does not cover %v", a, b, c, d, common)
					}
				}
			}
		}
	}
	if found < 1000 {
		t.Errorf("only %d times three boxes overlap pairwise", found)
	}
}

func TestP4_5_Permuted(t *testing.T) {
	r := rand.New(rand.NewSource(45))
	for _, l := range lists() {
		for range 5 {
			// The box i comes to the place place[i].
			place := r.Perm(len(l))
			other := make([]api.Box, len(l))
			for i, b := range l {
				other[place[i]] = b
			}
			var want [][2]int
			for _, p := range broadphase.Pairs(l) {
				i, j := place[p[0]], place[p[1]]
				want = append(want, [2]int{min(i, j), max(i, j)})
			}
			slices.SortFunc(want, func(p, q [2]int) int { return slices.Compare(p[:], q[:]) })
			if got := broadphase.Pairs(other); !slices.Equal(got, want) {
				t.Errorf("Pairs(%v) = %v, want %v as for %v", other, got, want, l)
			}
		}
	}
}

func TestP4_5_Prefix(t *testing.T) {
	for _, l := range lists() {
		whole := broadphase.Pairs(l)
		for n := range len(l) + 1 {
			var want [][2]int
			for _, p := range whole {
				if p[0] < n && p[1] < n {
					want = append(want, p)
				}
			}
			if got := broadphase.Pairs(l[:n]); !slices.Equal(got, want) {
				t.Errorf("Pairs(%v) = %v, want %v", l[:n], got, want)
			}
		}
	}
}

func TestP4_5_Containing(t *testing.T) {
	l := append(grid(4), randomBoxes(rand.New(rand.NewSource(46)), far, far/2, 60)...)
	for _, inner := range l {
		for _, outer := range l {
			if outer.X0 > inner.X0 || outer.Y0 > inner.Y0 || outer.X1 < inner.X1 || outer.Y1 < inner.Y1 {
				continue
			}
			for _, b := range l {
				if broadphase.Overlap(inner, b) && !broadphase.Overlap(outer, b) {
					t.Errorf("%v contains %v, but does not overlap %v", outer, inner, b)
				}
			}
		}
	}
}

// TestArgumentsStay holds Pairs to rule R4: the list of boxes, with what lies beyond its length, is not changed.
func TestArgumentsStay(t *testing.T) {
	for _, l := range lists() {
		whole := slices.Concat(l, []api.Box{box(-1, -1, 1, 1), point(5, 5)})
		before := slices.Clone(whole)
		broadphase.Pairs(whole[:len(l)])
		if !slices.Equal(whole, before) {
			t.Errorf("%v became %v", before, whole)
		}
	}
}

// TestNewResults holds Pairs to rules R4 and R5: every call answers the same, in a list of its own.
func TestNewResults(t *testing.T) {
	for _, l := range lists() {
		first := broadphase.Pairs(l)
		want := slices.Clone(first)
		for range 5 {
			second := broadphase.Pairs(l)
			if !slices.Equal(second, want) {
				t.Errorf("Pairs(%v) = %v after %v", l, second, want)
			}
			for i := range second {
				second[i] = [2]int{-1, -1}
			}
			if !slices.Equal(first, want) {
				t.Errorf("two answers for %v share their memory", l)
			}
		}
	}
}

// TestOutsideTheDomain holds the calls to no result: they only have to end without a panic.
func TestOutsideTheDomain(t *testing.T) {
	wild := []int{math.MinInt, math.MinInt + 1, -far - 1, -1, 0, 1, far + 1, math.MaxInt}
	var l []api.Box
	for _, a := range wild {
		for _, b := range wild {
			l = append(l, box(a, b, b, a), box(a, a, b, b), box(b, 0, a, 0), box(0, a, 0, b))
		}
	}
	for _, a := range l {
		for _, b := range l {
			broadphase.Overlap(a, b)
		}
	}
	broadphase.Pairs(l)
	broadphase.Pairs(randomBoxes(rand.New(rand.NewSource(47)), 1<<30, 1<<22, 3*most))
}
