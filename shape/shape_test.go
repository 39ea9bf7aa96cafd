package shape_test

import (
	"math"
	"math/big"
	"math/rand"
	"slices"
	"testing"

	"arenanet/api"
	"arenanet/shape"
	"arenanet/vec"
)

// far is the largest absolute value that the components of positions, points and axes may have.
const far = 3 << 22

// edge is the largest absolute value that a vertex's components may have.
const edge = api.MaxRadius

func at(x, y int) api.Vec { return api.Vec{X: x, Y: y} }

func circle(radius int) api.Shape { return api.Shape{Radius: radius} }

// poly returns the polygon with these components, X and Y by turns.
func poly(l ...int) api.Shape {
	s := api.Shape{}
	for i := 0; i+1 < len(l); i += 2 {
		s.Poly = append(s.Poly, at(l[i], l[i+1]))
	}
	return s
}

// turned returns the polygon whose first vertex is the k-th of s.
func turned(s api.Shape, k int) api.Shape {
	return api.Shape{Radius: s.Radius, Poly: slices.Concat(s.Poly[k:], s.Poly[:k])}
}

// fixedPolygons returns valid polygons: small, large and thin ones, with every allowed number of vertices.
func fixedPolygons() []api.Shape {
	return []api.Shape{
		poly(-1, -1, 1, -1, 0, 1), poly(-1, 0, 1, -1, 0, 1), poly(-2, -2, 2, -2, 2, 2, -2, 2), poly(0, -1, 1, 0, 0, 1, -1, 0),
		poly(0, 3, -3, 1, -2, -3, 2, -3, 3, 1), poly(2, 0, 1, 2, -1, 2, -2, 0, -1, -2, 1, -2),
		poly(-edge, -edge, edge, -edge, edge, edge, -edge, edge), poly(edge, edge, -edge, 1-edge, 1-edge, -edge), poly(-edge, -1, edge, 0, 0, 1),
		poly(edge, 0, edge/2, edge, -edge/2, edge, -edge, 0, -edge/2, -edge, edge/2, -edge), poly(-7000, -5000, 9000, -6000, 12000, 3, 10, 8000),
	}
}

// hull returns the corners of the smallest convex polygon around the points, counterclockwise, the lowest of the leftmost first.
func hull(l []api.Vec) []api.Vec {
	l = slices.Clone(l)
	slices.SortFunc(l, func(a, b api.Vec) int {
		if a.X != b.X {
			return a.X - b.X
		}
		return a.Y - b.Y
	})
	l = slices.Compact(l)
	if len(l) < 3 {
		return l
	}
	half := func(points []api.Vec) []api.Vec {
		h := []api.Vec{}
		for _, p := range points {
			for len(h) > 1 && !leftTurn(h[len(h)-2], h[len(h)-1], p) {
				h = h[:len(h)-1]
			}
			h = append(h, p)
		}
		return h[:len(h)-1]
	}
	lower := half(l)
	slices.Reverse(l)
	return append(lower, half(l)...)
}

// leftTurn reports whether the way from a by b to c turns to the left.
func leftTurn(a, b, c api.Vec) bool { return (b.X-a.X)*(c.Y-b.Y) > (b.Y-a.Y)*(c.X-b.X) }

// wantValid tells by another way than the document's whether a polygon is valid: its vertices are, in their order, all the
// corners of their own hull, and with the origin they have no other hull, nor is the origin on an edge of it.
func wantValid(l []api.Vec) bool {
	if len(l) < 3 || len(l) > api.MaxVertices {
		return false
	}
	first := 0
	for i, v := range l {
		if v.X < -edge || v.X > edge || v.Y < -edge || v.Y > edge {
			return false
		}
		if v.X < l[first].X || v.X == l[first].X && v.Y < l[first].Y {
			first = i
		}
	}
	h := hull(l)
	if !slices.Equal(h, slices.Concat(l[first:], l[:first])) {
		return false
	}
	for i, v := range h {
		if !leftTurn(v, h[(i+1)%len(h)], api.Vec{}) {
			return false
		}
	}
	return true
}

// randomPolygons returns valid polygons with components of at most size, the same in every run.
func randomPolygons(r *rand.Rand, size, count int) []api.Shape {
	out := []api.Shape{}
	for len(out) < count {
		l := []api.Vec{}
		for range 3 + r.Intn(8) {
			l = append(l, at(r.Intn(2*size+1)-size, r.Intn(2*size+1)-size))
		}
		if l = hull(l); wantValid(l) {
			out = append(out, api.Shape{Poly: l})
		}
	}
	return out
}

// polygons returns the fixed polygons and random ones of several sizes.
func polygons() []api.Shape {
	r := rand.New(rand.NewSource(3))
	l := fixedPolygons()
	for _, size := range []int{3, 6, 40, 3000, edge} {
		l = append(l, randomPolygons(r, size, 12)...)
	}
	return l
}

func circles() []api.Shape {
	l := []api.Shape{}
	for _, r := range []int{1, 2, 5, 13, 1000, 1024, api.MaxRadius - 1, api.MaxRadius} {
		l = append(l, circle(r))
	}
	return l
}

func shapes() []api.Shape { return append(circles(), polygons()...) }

// places returns positions and axes of all directions, with the greatest ones.
func places() []api.Vec {
	l := []api.Vec{}
	for _, x := range []int{-far, -1 << 20, -1025, -2, 0, 1, 700, 99999, far} {
		for _, y := range []int{-far, -4096, -1, 0, 3, 1024, far} {
			l = append(l, at(x, y))
		}
	}
	return l
}

// covers tells by another way than the document's whether a valid shape at the origin covers d: of a polygon, d lies in one
// of the triangles of the origin and an edge.
func covers(s api.Shape, d api.Vec) bool {
	if len(s.Poly) == 0 {
		n := func(k int) *big.Int { return big.NewInt(int64(k)) }
		square := func(k int) *big.Int { return new(big.Int).Mul(n(k), n(k)) }
		return new(big.Int).Add(square(d.X), square(d.Y)).Cmp(square(s.Radius)) <= 0
	}
	for i, v := range s.Poly {
		w := s.Poly[(i+1)%len(s.Poly)]
		// d is f of v and g of w, each times the same positive number; together they are not more than that number.
		f, g, whole := d.X*w.Y-d.Y*w.X, v.X*d.Y-v.Y*d.X, v.X*w.Y-v.Y*w.X
		if f >= 0 && g >= 0 && f+g <= whole {
			return true
		}
	}
	return false
}

// covered returns points, relative to its position, that the shape covers: its center, the outermost ones and some between them.
func covered(s api.Shape) []api.Vec {
	l := append([]api.Vec{{}}, s.Poly...)
	r := s.Radius
	for _, p := range []api.Vec{at(r, 0), at(0, r), at(-r, 0), at(0, -r), at(r*3/5, r*4/5), at(-r*5/13, -r*12/13)} {
		if r > 0 {
			l = append(l, p)
		}
	}
	for _, p := range slices.Clone(l) {
		for _, q := range slices.Clone(l) {
			if m := at((p.X+q.X)>>1, (p.Y+q.Y)>>1); covers(s, m) {
				l = append(l, m)
			}
		}
	}
	return l
}

// floor returns (a.X * b.X + a.Y * b.Y) / One, rounded toward negative infinity.
func floor(a, b api.Vec) int { return (a.X*b.X + a.Y*b.Y) >> 10 }

func TestP3_1_Circles(t *testing.T) {
	for radius, want := range map[int]api.Errno{
		1: api.OK, 2: api.OK, 1024: api.OK, api.MaxRadius - 1: api.OK, api.MaxRadius: api.OK,
		0: api.ErrShape, -1: api.ErrShape, api.MaxRadius + 1: api.ErrShape, -api.MaxRadius: api.ErrShape, math.MinInt: api.ErrShape, math.MaxInt: api.ErrShape, 1<<32 + 1: api.ErrShape,
	} {
		if got := shape.Validate(circle(radius)); got != want {
			t.Errorf("radius %d: %v, want %v", radius, got, want)
		}
		if got := shape.Validate(api.Shape{Radius: radius, Poly: []api.Vec{}}); got != want {
			t.Errorf("radius %d with an empty list: %v, want %v", radius, got, want)
		}
	}
}

func TestP3_1_RadiusAndVertices(t *testing.T) {
	for _, s := range polygons() {
		for _, radius := range []int{1, -1, 5, api.MaxRadius, api.MaxRadius + 1, math.MinInt, math.MaxInt} {
			if got := shape.Validate(api.Shape{Radius: radius, Poly: s.Poly}); got != api.ErrShape {
				t.Errorf("%v with the radius %d: %v", s.Poly, radius, got)
			}
		}
	}
	for _, s := range []api.Shape{{Radius: 5, Poly: []api.Vec{{}}}, {Radius: 5, Poly: []api.Vec{{X: 1}, {X: -1}}}} {
		if got := shape.Validate(s); got != api.ErrShape {
			t.Errorf("%v: %v", s, got)
		}
	}
}

func TestP3_1_Polygons(t *testing.T) {
	for _, s := range polygons() {
		for k := range s.Poly {
			if got := shape.Validate(turned(s, k)); got != api.OK {
				t.Errorf("%v: %v", turned(s, k), got)
			}
		}
		clockwise := slices.Clone(s.Poly)
		slices.Reverse(clockwise)
		if got := shape.Validate(api.Shape{Poly: clockwise}); got != api.ErrShape {
			t.Errorf("clockwise %v: %v", clockwise, got)
		}
	}
}

func TestP3_1_WrongPolygons(t *testing.T) {
	for name, s := range map[string]api.Shape{
		"nothing":                     {},
		"one vertex":                  poly(0, 0),
		"two vertices":                poly(-1, 0, 1, 0),
		"three times the origin":      poly(0, 0, 0, 0, 0, 0),
		"on one line":                 poly(-2, 0, 0, 0, 2, 0),
		"clockwise":                   poly(-1, -1, 0, 1, 1, -1),
		"origin outside":              poly(1, 1, 3, 1, 2, 3),
		"origin on an edge":           poly(-1, 0, 1, 0, 0, 1),
		"origin on the last edge":     poly(1, 0, 0, 1, -1, 0),
		"origin is a vertex":          poly(0, 0, 2, 1, 1, 2),
		"a flat corner":               poly(-2, -2, 0, -2, 2, -2, 2, 2, -2, 2),
		"a flat corner at the end":    poly(-2, -2, 2, -2, 2, 2, -2, 2, -2, 0),
		"a hollow corner":             poly(-2, -2, 2, -2, 2, 2, 0, 1, -2, 2),
		"a vertex twice in sequence":  poly(-2, -2, 2, -2, 2, -2, 2, 2, -2, 2),
		"a vertex first and last":     poly(-2, -2, 2, -2, 2, 2, -2, 2, -2, -2),
		"round twice":                 poly(-1, -1, 1, -1, 0, 1, -1, -1, 1, -1, 0, 1),
		"crossing edges":              poly(-2, -2, 2, 2, 2, -2, -2, 2),
		"a star":                      poly(0, 3, -2, -2, 3, 1, -3, 1, 2, -2),
		"seven vertices":              poly(3, 0, 2, 2, 0, 3, -2, 2, -3, 0, -2, -2, 2, -2),
		"a thousand vertices":         {Poly: make([]api.Vec, 1000)},
		"a component too low":         poly(-edge-1, -1, 1, -1, 0, 1),
		"a component too low, in Y":   poly(-1, -1, 0, -edge-1, 1, 1),
		"a component too high":        poly(-1, -1, edge+1, 0, -1, 1),
		"a component too high, in Y":  poly(-1, -1, 1, -1, 0, edge+1),
		"edges of wrapping products":  poly(-1<<40, -1<<40, 1<<40, -1<<40, 0, 1<<40),
		"components of 2^32 too much": poly(1<<32-1, -1, 1, -1, 0, 1),
		"the extreme ints":            poly(math.MinInt, math.MinInt, math.MaxInt, math.MinInt, 0, math.MaxInt),
		"the smallest int":            poly(-1, -1, 1, -1, 0, math.MinInt),
		// With their products wrapped round, these are like triangles with 0 in place of the great numbers.
		"the smallest int for 0":       poly(-2, -2, 2, -2, math.MinInt, 2),
		"the smallest int for 0, in Y": poly(-2, 2, -2, -2, 2, math.MinInt),
		"2^62 for 0":                   poly(-4, -4, 4, -4, 1<<62, 4),
	} {
		if got := shape.Validate(s); got != api.ErrShape {
			t.Errorf("%s: %v", name, got)
		}
		for k := range min(len(s.Poly), 7) {
			if got := shape.Validate(turned(s, k)); got != api.ErrShape {
				t.Errorf("%s, turned by %d: %v", name, k, got)
			}
		}
	}
}

func TestP3_1_Reach(t *testing.T) {
	for _, n := range []int{edge - 1, edge, edge + 1, edge + 2} {
		want := api.OK
		if n > edge {
			want = api.ErrShape
		}
		for _, s := range []api.Shape{poly(-n, -1, 1, -1, 0, 1), poly(-1, -1, n, 0, -1, 1), poly(-1, -1, 1, -1, 0, n), poly(-1, 1, 0, -n, 1, 1), poly(-n, -n, n, -n, n, n, -n, n)} {
			if got := shape.Validate(s); got != want {
				t.Errorf("%v: %v, want %v", s, got, want)
			}
		}
	}
}

// expectValidity compares Validate with wantValid.
func expectValidity(t *testing.T, l []api.Vec) {
	t.Helper()
	if got := shape.Validate(api.Shape{Poly: l}); (got == api.OK) != wantValid(l) || got != api.OK && got != api.ErrShape {
		t.Errorf("%v: %v, want valid: %v", l, got, wantValid(l))
	}
}

func TestP3_1_AllTriangles(t *testing.T) {
	l := []api.Vec{}
	for i := range 25 {
		l = append(l, at(i%5-2, i/5-2))
	}
	for _, a := range l {
		for _, b := range l {
			for _, c := range l {
				expectValidity(t, []api.Vec{a, b, c})
			}
		}
	}
}

func TestP3_1_AllQuadrangles(t *testing.T) {
	l := []api.Vec{}
	for i := range 16 {
		l = append(l, at(i%4-1, i/4-2))
	}
	for _, a := range l {
		for _, b := range l {
			for _, c := range l {
				for _, d := range l {
					expectValidity(t, []api.Vec{a, b, c, d})
				}
			}
		}
	}
}

func TestP3_1_Mutilated(t *testing.T) {
	r := rand.New(rand.NewSource(31))
	for _, size := range []int{3, 5, 9, 2000, edge} {
		for _, s := range randomPolygons(r, size, 300) {
			expectValidity(t, s.Poly)
			n := len(s.Poly)
			i, j := r.Intn(n), r.Intn(n)
			swapped := slices.Clone(s.Poly)
			swapped[i], swapped[j] = swapped[j], swapped[i]
			expectValidity(t, swapped)
			expectValidity(t, slices.Insert(slices.Clone(s.Poly), i, s.Poly[j]))
			expectValidity(t, slices.Delete(slices.Clone(s.Poly), i, i+1))
			moved := slices.Clone(s.Poly)
			moved[i] = vec.Add(moved[i], at(r.Intn(5)-2, r.Intn(5)-2))
			expectValidity(t, moved)
			shift := at(r.Intn(size)-size/2, r.Intn(size)-size/2)
			for k := range moved {
				moved[k] = vec.Add(s.Poly[k], shift)
			}
			expectValidity(t, moved)
			// Every second vertex: with an odd number of them, a star that goes around twice.
			for k := range moved {
				moved[k] = s.Poly[2*k%n]
			}
			expectValidity(t, moved)
		}
	}
}

func TestP3_2_Examples(t *testing.T) {
	square := poly(-2, -2, 2, -2, 2, 2, -2, 2)
	for _, x := range []struct {
		s   api.Shape
		pos api.Vec
		box api.Box
	}{
		{square, at(10, 0), api.Box{X0: 8, Y0: -2, X1: 12, Y1: 2}}, {circle(5), at(10, 1), api.Box{X0: 5, Y0: -4, X1: 15, Y1: 6}},
		{poly(-1, 0, 1, -3, 4, 5), at(-7, 9), api.Box{X0: -8, Y0: 6, X1: -3, Y1: 14}}, {poly(4, 5, -1, 0, 1, -3), at(0, 0), api.Box{X0: -1, Y0: -3, X1: 4, Y1: 5}},
		{circle(api.MaxRadius), at(far, -far), api.Box{X0: far - edge, Y0: -far - edge, X1: far + edge, Y1: -far + edge}},
		{poly(-edge, -edge, edge, -edge, edge, edge, -edge, edge), at(-far, far), api.Box{X0: -far - edge, Y0: far - edge, X1: -far + edge, Y1: far + edge}},
	} {
		if got := shape.Bounds(x.s, x.pos); got != x.box {
			t.Errorf("Bounds(%v, %v) = %v, want %v", x.s, x.pos, got, x.box)
		}
	}
}

// TestP3_2_Smallest looks at every point around small shapes.
func TestP3_2_Smallest(t *testing.T) {
	l := append(randomPolygons(rand.New(rand.NewSource(32)), 7, 60), circle(1), circle(2), circle(5), circle(8))
	for _, s := range l {
		for _, pos := range places() {
			want := api.Box{X0: math.MaxInt, Y0: math.MaxInt, X1: math.MinInt, Y1: math.MinInt}
			for x := pos.X - 9; x <= pos.X+9; x++ {
				for y := pos.Y - 9; y <= pos.Y+9; y++ {
					if covers(s, at(x-pos.X, y-pos.Y)) {
						want = api.Box{X0: min(want.X0, x), Y0: min(want.Y0, y), X1: max(want.X1, x), Y1: max(want.Y1, y)}
					}
				}
			}
			if got := shape.Bounds(s, pos); got != want {
				t.Errorf("Bounds(%v, %v) = %v, want %v", s, pos, got, want)
			}
		}
	}
}

func TestP3_2_LargeShapes(t *testing.T) {
	for _, s := range shapes() {
		xs, ys := []int{s.Radius, -s.Radius}, []int{s.Radius, -s.Radius}
		if len(s.Poly) > 0 {
			xs, ys = nil, nil
		}
		for _, v := range s.Poly {
			xs, ys = append(xs, v.X), append(ys, v.Y)
		}
		for _, pos := range places() {
			want := api.Box{X0: pos.X + slices.Min(xs), Y0: pos.Y + slices.Min(ys), X1: pos.X + slices.Max(xs), Y1: pos.Y + slices.Max(ys)}
			if got := shape.Bounds(s, pos); got != want {
				t.Errorf("Bounds(%v, %v) = %v, want %v", s, pos, got, want)
			}
		}
	}
}

func TestP3_3_Examples(t *testing.T) {
	square, diamond := poly(-2, -2, 2, -2, 2, 2, -2, 2), poly(0, -1, 1, 0, 0, 1, -1, 0)
	for _, x := range []struct {
		s         api.Shape
		pos, axis api.Vec
		low, high int
	}{
		{square, at(10, 1), at(1024, 0), 8, 12}, {square, at(10, 1), at(0, -1024), -3, 1}, {diamond, at(10, 1), at(512, 512), 5, 6}, {diamond, at(0, 0), at(512, 512), -1, 0},
		{diamond, at(0, 0), at(0, 0), 0, 0}, {diamond, at(0, 0), at(1, 0), -1, 0}, {diamond, at(0, 0), at(-2048, 0), -2, 2},
		// A circle's radius is not multiplied by the axis.
		{circle(5), at(10, 1), at(1024, 0), 5, 15}, {circle(5), at(10, 1), at(0, 512), -5, 5}, {circle(5), at(0, -1), at(0, 1), -6, 4}, {circle(5), at(3, 3), at(0, 0), -5, 5}, {circle(5), at(-3, 0), at(4096, 0), -17, -7},
		{circle(edge), at(far, -far), at(far, -far), 18*(1<<34) - edge, 18*(1<<34) + edge}, {circle(edge), at(far, far), at(-far, -far), -18*(1<<34) - edge, -18*(1<<34) + edge},
		{poly(-edge, -edge, edge, -edge, edge, edge, -edge, edge), at(far, far), at(far, far), 18*(1<<34) - 6*(1<<27), 18*(1<<34) + 6*(1<<27)},
		{poly(-edge, -edge, edge, -edge, edge, edge, -edge, edge), at(-far, -far), at(far, far), -18*(1<<34) - 6*(1<<27), -18*(1<<34) + 6*(1<<27)},
	} {
		if low, high := shape.Project(x.s, x.pos, x.axis); low != x.low || high != x.high {
			t.Errorf("Project(%v, %v, %v) = %d, %d, want %d, %d", x.s, x.pos, x.axis, low, high, x.low, x.high)
		}
	}
}

func TestP3_3_Ends(t *testing.T) {
	for _, s := range shapes() {
		for _, pos := range places() {
			for _, axis := range places() {
				ends := []int{floor(pos, axis) - s.Radius, floor(pos, axis) + s.Radius}
				if len(s.Poly) > 0 {
					ends = nil
				}
				// Rounded after the vertex is added to the position, not before.
				for _, v := range s.Poly {
					ends = append(ends, floor(at(pos.X+v.X, pos.Y+v.Y), axis))
				}
				if low, high := shape.Project(s, pos, axis); low != slices.Min(ends) || high != slices.Max(ends) {
					t.Fatalf("Project(%v, %v, %v) = %d, %d, want %d, %d", s, pos, axis, low, high, slices.Min(ends), slices.Max(ends))
				}
			}
		}
	}
}

func TestP3_4_Examples(t *testing.T) {
	square, diamond := poly(-2, -2, 2, -2, 2, 2, -2, 2), poly(0, -1, 1, 0, 0, 1, -1, 0)
	thin := poly(-edge, -1, edge, 0, 0, 1)
	for _, x := range []struct {
		s      api.Shape
		pos, p api.Vec
		want   bool
	}{
		{square, at(10, 0), at(12, 2), true}, {square, at(10, 0), at(13, 0), false}, {square, at(10, 0), at(8, -2), true}, {square, at(10, 0), at(8, -3), false}, {square, at(10, 0), at(10, 2), true}, {square, at(10, 0), at(10, 3), false},
		{circle(5), at(0, 0), at(3, 4), true}, {circle(5), at(0, 0), at(4, 4), false}, {circle(5), at(0, 0), at(-5, 0), true}, {circle(5), at(0, 0), at(0, 6), false}, {circle(1), at(7, 7), at(7, 8), true}, {circle(1), at(7, 7), at(8, 8), false},
		{diamond, at(10, 1), at(11, 1), true}, {diamond, at(10, 1), at(11, 2), false}, {diamond, at(10, 1), at(10, 1), true},
		{circle(edge), at(far, far), at(far-edge, far), true}, {circle(edge), at(far, far), at(far-edge, far-1), false}, {circle(edge), at(far, far), at(-far, -far), false}, {circle(edge), at(far, -far), at(-far, far), false},
		{thin, at(-far, far), at(edge-far, far), true}, {thin, at(-far, far), at(edge-far-1, far), true}, {thin, at(-far, far), at(edge-far-1, far+1), false}, {thin, at(-far, far), at(-far, far+1), true}, {thin, at(-far, far), at(1-far, far+1), false},
		{thin, at(-far, far), at(far, far), false}, {thin, at(far, -far), at(-far, far), false}, {thin, at(0, 0), at(-edge, 0), false}, {thin, at(0, 0), at(-edge/2, 0), true}, {thin, at(0, 0), at(-edge/2-1, 0), false},
	} {
		if got := shape.Contains(x.s, x.pos, x.p); got != x.want {
			t.Errorf("Contains(%v, %v, %v) = %v", x.s, x.pos, x.p, got)
		}
	}
}

// TestP3_4_Small looks at every point around small shapes.
func TestP3_4_Small(t *testing.T) {
	l := randomPolygons(rand.New(rand.NewSource(34)), 7, 60)
	for r := 1; r <= 8; r++ {
		l = append(l, circle(r))
	}
	for _, s := range l {
		for _, pos := range []api.Vec{at(0, 0), at(-1000, 3), at(far-9, 9-far), at(9-far, far-9)} {
			for x := -9; x <= 9; x++ {
				for y := -9; y <= 9; y++ {
					if got := shape.Contains(s, pos, at(pos.X+x, pos.Y+y)); got != covers(s, at(x, y)) {
						t.Errorf("Contains(%v, %v, %v) = %v", s, pos, at(pos.X+x, pos.Y+y), got)
					}
				}
			}
		}
	}
}

// TestP3_4_AtTheBorder looks at the points next to the vertices, the edges' middles and the circle, and at far ones.
func TestP3_4_AtTheBorder(t *testing.T) {
	for _, s := range shapes() {
		for _, pos := range []api.Vec{at(0, 0), at(1-far/2, far/2), at(far-edge-2, edge+2-far)} {
			for _, d := range covered(s) {
				for i := range 25 {
					d := at(d.X+i%5-2, d.Y+i/5-2)
					if got := shape.Contains(s, pos, vec.Add(pos, d)); got != covers(s, d) {
						t.Errorf("Contains(%v, %v, %v) = %v", s, pos, vec.Add(pos, d), got)
					}
				}
			}
			for _, p := range places() {
				if got := shape.Contains(s, pos, p); got != covers(s, vec.Sub(p, pos)) {
					t.Errorf("Contains(%v, %v, %v) = %v", s, pos, p, got)
				}
			}
		}
	}
}

func TestP3_5_Segments(t *testing.T) {
	l := append(randomPolygons(rand.New(rand.NewSource(35)), 9, 25), circle(1), circle(4), circle(9))
	pos := at(-300, 77)
	for _, s := range l {
		in := []api.Vec{}
		for i := range 19 * 19 {
			if p := at(pos.X+i%19-9, pos.Y+i/19-9); shape.Contains(s, pos, p) {
				in = append(in, p)
			}
		}
		for _, p := range in {
			for _, q := range in {
				between(t, s, pos, p, q)
			}
		}
	}
}

// between asks for every point with integer coordinates on the segment from p to q.
func between(t *testing.T, s api.Shape, pos, p, q api.Vec) {
	t.Helper()
	step := vec.Sub(q, p)
	n := int(new(big.Int).GCD(nil, nil, big.NewInt(int64(max(step.X, -step.X))), big.NewInt(int64(max(step.Y, -step.Y)))).Int64())
	for k := 1; k < n; k++ {
		if m := at(p.X+step.X/n*k, p.Y+step.Y/n*k); !shape.Contains(s, pos, m) {
			t.Errorf("%v at %v covers %v and %v, not %v", s, pos, p, q, m)
		}
	}
}

func TestP3_5_Covered(t *testing.T) {
	for _, s := range shapes() {
		for _, pos := range places() {
			if !shape.Contains(s, pos, pos) {
				t.Errorf("%v does not cover its position %v", s, pos)
			}
		}
		for _, pos := range []api.Vec{at(0, 0), at(far-edge, edge-far)} {
			for _, v := range s.Poly {
				if !shape.Contains(s, pos, vec.Add(pos, v)) {
					t.Errorf("%v at %v does not cover its vertex %v", s, pos, v)
				}
			}
			l := covered(s)
			for _, p := range l {
				for _, q := range l {
					if (p.X+q.X)%2 == 0 && (p.Y+q.Y)%2 == 0 && !shape.Contains(s, pos, at(pos.X+(p.X+q.X)/2, pos.Y+(p.Y+q.Y)/2)) {
						t.Errorf("%v at %v covers %v and %v, not their midpoint", s, pos, p, q)
					}
				}
			}
		}
	}
}

// units returns axes whose length is at most One: of every direction, and short ones.
func units() []api.Vec {
	l := []api.Vec{at(0, 0), at(api.One, 0), at(0, api.One), at(-api.One, 0), at(0, -api.One), at(1, 0), at(0, -1), at(-1, 1), at(500, -300)}
	for x := -1024; x <= 1024; x += 128 {
		for y := -1024; y <= 1024; y += 128 {
			if a := vec.Normalize(at(x, y)); a.X*a.X+a.Y*a.Y <= api.One*api.One {
				l = append(l, a)
			}
		}
	}
	return l
}

func TestP3_6_ProjectionBounds(t *testing.T) {
	for _, s := range shapes() {
		axes := units()
		if len(s.Poly) > 0 {
			axes = append(axes, places()...)
		}
		for _, pos := range []api.Vec{at(0, 0), at(-5, 1023), at(far-edge, edge-far)} {
			for _, axis := range axes {
				low, high := shape.Project(s, pos, axis)
				for _, d := range covered(s) {
					if n := vec.Dot(vec.Add(pos, d), axis); n < low || n > high {
						t.Fatalf("%v at %v covers %v, whose projection onto %v is %d, not from %d to %d", s, pos, vec.Add(pos, d), axis, n, low, high)
					}
				}
			}
		}
	}
}

func TestP3_7_Moved(t *testing.T) {
	for _, s := range shapes() {
		for _, pos := range []api.Vec{at(0, 0), at(-700, 12345)} {
			box := shape.Bounds(s, pos)
			for _, by := range []api.Vec{at(1, 0), at(0, -1), at(-1025, 4097), at(far/2, -far/2), at(-far+edge+701, far-edge-12346)} {
				want := api.Box{X0: box.X0 + by.X, Y0: box.Y0 + by.Y, X1: box.X1 + by.X, Y1: box.Y1 + by.Y}
				if got := shape.Bounds(s, vec.Add(pos, by)); got != want {
					t.Errorf("%v moved from %v by %v: bounds %v, want %v", s, pos, by, got, want)
				}
				for _, d := range covered(s) {
					for _, p := range []api.Vec{vec.Add(pos, d), vec.Add(pos, at(d.X+1, d.Y)), vec.Add(pos, at(d.X-1, d.Y-1))} {
						if shape.Contains(s, pos, p) != shape.Contains(s, vec.Add(pos, by), vec.Add(p, by)) {
							t.Errorf("%v and %v moved from %v by %v", s, p, pos, by)
						}
					}
				}
			}
		}
	}
}

func TestP3_7_ProjectMoved(t *testing.T) {
	for _, s := range shapes() {
		for _, pos := range []api.Vec{at(0, 0), at(-701, 1023)} {
			for _, axis := range append(units(), at(far, -far), at(-99999, 3)) {
				low, high := shape.Project(s, pos, axis)
				for _, k := range []api.Vec{at(1, 0), at(0, -1), at(7, -3), at(-5000, 12000)} {
					by := k.X*axis.X + k.Y*axis.Y
					gotLow, gotHigh := shape.Project(s, at(pos.X+k.X*api.One, pos.Y+k.Y*api.One), axis)
					if gotLow != low+by || gotHigh != high+by {
						t.Fatalf("%v moved from %v by %v times One, onto %v: %d, %d, want %d, %d", s, pos, k, axis, gotLow, gotHigh, low+by, high+by)
					}
				}
			}
		}
	}
}

func TestP3_7_FirstVertex(t *testing.T) {
	for _, s := range polygons() {
		for k := range s.Poly {
			other := turned(s, k)
			if shape.Validate(other) != shape.Validate(s) {
				t.Errorf("validity of %v and %v", s, other)
			}
			for _, pos := range places() {
				if shape.Bounds(other, pos) != shape.Bounds(s, pos) {
					t.Errorf("bounds of %v and %v at %v", s, other, pos)
				}
				for _, axis := range []api.Vec{at(1024, 0), at(-724, 724), at(3, -5), at(far, 1)} {
					low, high := shape.Project(s, pos, axis)
					if l, h := shape.Project(other, pos, axis); l != low || h != high {
						t.Errorf("projections of %v and %v at %v onto %v", s, other, pos, axis)
					}
				}
				for _, d := range append(covered(s)[:len(s.Poly)+1], at(1, 1), at(-2, 3), at(4000, 1)) {
					p := at(min(max(pos.X+d.X, -far), far), min(max(pos.Y+d.Y, -far), far))
					if shape.Contains(other, pos, p) != shape.Contains(s, pos, p) {
						t.Errorf("%v and %v at %v, point %v", s, other, pos, p)
					}
				}
			}
		}
	}
}

// TestArgumentsStay holds the calls to rule R4: the list of vertices, with what lies beyond its length, is not changed.
func TestArgumentsStay(t *testing.T) {
	for _, s := range polygons() {
		whole := slices.Concat(s.Poly, []api.Vec{at(77, 77), at(-5, 5)})
		before := slices.Clone(whole)
		part := api.Shape{Poly: whole[:len(s.Poly)]}
		shape.Validate(part)
		shape.Bounds(part, at(3, 4))
		shape.Project(part, at(3, 4), at(5, 6))
		shape.Contains(part, at(3, 4), at(5, 6))
		if !slices.Equal(whole, before) {
			t.Errorf("%v became %v", before, whole)
		}
	}
}

// TestOutsideTheDomain holds the calls to no result: they only have to end without a panic.
func TestOutsideTheDomain(t *testing.T) {
	wild := []int{math.MinInt, math.MinInt + 1, -1 << 32, -far - 1, -1, 0, 1, far + 1, 1 << 32, 3 << 31, math.MaxInt}
	l := []api.Shape{{}, {Radius: -1}, {Radius: math.MinInt}, {Radius: math.MaxInt}, {Radius: 3, Poly: []api.Vec{{X: 1}}}, poly(1, 2), poly(1, 2, 3, 4), {Poly: make([]api.Vec, 7)}, {Poly: make([]api.Vec, 1000)}}
	for _, n := range wild {
		l = append(l, poly(n, -n, n, n, -n, n), poly(n, n), poly(0, n, n, 1))
	}
	for _, s := range append(l, shapes()...) {
		shape.Validate(s)
		for _, x := range wild {
			for _, y := range wild {
				shape.Bounds(s, at(x, y))
				shape.Project(s, at(x, y), at(y, y))
				shape.Project(s, at(y, y), at(x, y))
				shape.Contains(s, at(x, y), at(y, y))
				shape.Contains(s, at(y, y), at(x, y))
			}
		}
	}
}
