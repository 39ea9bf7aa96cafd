package toi_test

import (
	"math"
	"math/big"
	"math/rand"
	"slices"
	"testing"

	"arenanet/api"
	"arenanet/broadphase"
	"arenanet/collide"
	"arenanet/shape"
	"arenanet/toi"
)

// far, fast and edge are the largest absolute values of components: of positions, velocities and vertices.
const (
	far  = api.MaxCoord
	fast = api.MaxSpeed
	edge = api.MaxRadius
)

func at(x, y int) api.Vec { return api.Vec{X: x, Y: y} }

func circle(radius int) api.Shape { return api.Shape{Radius: radius} }

// poly returns the polygon with these components, X and Y by turns.
func poly(l ...int) api.Shape {
	s := api.Shape{}
	for i := 0; i+1 < len(l); i += 2 {
		s.Poly = append(s.Poly, at(l[i], l[i+1]))
	}
	return s
}

// slab returns the rectangle with these half sides.
func slab(x, y int) api.Shape { return poly(-x, -y, x, -y, x, y, -x, y) }

// square returns the square with this half side.
func square(h int) api.Shape { return slab(h, h) }

// diamond returns the square that stands on a corner, with this half diagonal.
func diamond(h int) api.Shape { return poly(0, -h, h, 0, 0, h, -h, 0) }

// shapes returns valid shapes: small, large and thin ones, with every allowed number of vertices.
func shapes() []api.Shape {
	return []api.Shape{
		circle(1), circle(10), circle(700), circle(5000), circle(edge),
		square(1), square(40), square(1000), square(edge), diamond(3), diamond(2000), slab(1, 3000), slab(edge, 2),
		poly(-1, -1, 1, -1, 0, 1), poly(edge, edge, -edge, 1-edge, 1-edge, -edge), poly(0, 300, -300, 100, -200, -300, 200, -300, 300, 100), poly(2000, 0, 1000, 2000, -1000, 2000, -2000, 0, -1000, -2000, 1000, -2000),
	}
}

// body is a shape that moves.
type body struct {
	shape    api.Shape
	pos, vel api.Vec
}

func earliest(a, b body) int {
	return toi.Earliest(a.shape, a.pos, a.vel, b.shape, b.pos, b.vel)
}

// eighth returns k eighths of n, rounded toward negative infinity.
func eighth(n, k int) int {
	return int(new(big.Int).Div(big.NewInt(int64(n*k)), big.NewInt(8)).Int64())
}

// after returns the body after k sub-steps.
func (b body) after(k int) body {
	b.pos = at(b.pos.X+eighth(b.vel.X, k), b.pos.Y+eighth(b.vel.Y, k))
	return b
}

func (b body) moved(by api.Vec) body {
	b.pos = at(b.pos.X+by.X, b.pos.Y+by.Y)
	return b
}

// allowed reports whether the position is one that Earliest takes.
func (b body) allowed() bool { return max(b.pos.X, -b.pos.X, b.pos.Y, -b.pos.Y) <= far }

func meet(a, b body) bool {
	_, ok := collide.Collide(a.shape, a.pos, b.shape, b.pos)
	return ok
}

// touches reports for each number of sub-steps whether two bodies touch.
func touches(a, b body) []bool {
	l := []bool{}
	for k := range 9 {
		l = append(l, meet(a.after(k), b.after(k)))
	}
	return l
}

// want computes the result by another way than the program's.
func want(touch []bool) int {
	k := slices.Index(touch, true)
	if k < 1 {
		return 1024
	}
	return (k - 1) * 128
}

// reach returns the greatest absolute value of a component of the points that the shape covers at the origin.
func reach(s api.Shape) int {
	n := s.Radius
	for _, v := range s.Poly {
		n = max(n, v.X, -v.X, v.Y, -v.Y)
	}
	return n
}

// courses calls visit with every two shapes: at rest and in motion at all speeds, together, near to each other and far away, the
// same in every run.
func courses(visit func(a, b body)) {
	r := rand.New(rand.NewSource(6))
	around := func(n int) api.Vec { return at(r.Intn(2*n+1)-n, r.Intn(2*n+1)-n) }
	limited := func(v api.Vec, n int) api.Vec { return at(min(max(v.X, -n), n), min(max(v.Y, -n), n)) }
	for _, s := range shapes() {
		for _, o := range shapes() {
			size := reach(s) + reach(o)
			for i := range 60 {
				start := around(far)
				a := body{s, start, around([]int{0, 1, 9, 300, size, fast}[i%6])}
				a.vel = limited(a.vel, fast)
				b := body{o, limited(a.moved(around(min(size+size/2, far))).pos, far), around([]int{0, 2, 40, fast}[i%4])}
				switch i % 10 {
				case 0:
					b.pos = a.pos
				case 1:
					b.pos = around(far)
				case 2, 3, 4, 5, 6:
					// Towards the other one, so fast that they come upon each other in one of the sub-steps.
					b.pos = limited(a.moved(around(min(size+fast, far))).pos, far)
					way := at(b.pos.X-a.pos.X, b.pos.Y-a.pos.Y)
					a.vel = limited(at(way.X*(i%3+1)/2, way.Y*(i%3+1)/2), fast)
				}
				visit(a, b)
			}
		}
	}
}

func expect(t *testing.T, a, b body, want int) {
	t.Helper()
	if got := earliest(a, b); got != want {
		t.Errorf("Earliest%v%v = %d, want %d", a, b, got, want)
	}
}

// TestShapesAreValid looks at what the other tests are made of.
func TestShapesAreValid(t *testing.T) {
	for _, s := range shapes() {
		if shape.Validate(s) != api.OK {
			t.Errorf("%v is not valid", s)
		}
	}
}

func TestP6_1_Steps(t *testing.T) {
	if toi.Steps != 8 {
		t.Errorf("Steps is %d", toi.Steps)
	}
}

func TestP6_1_Examples(t *testing.T) {
	ball := circle(10)
	rest := func(s api.Shape, x, y int) body { return body{s, at(x, y), at(0, 0)} }
	moving := func(s api.Shape, x, y, dx, dy int) body { return body{s, at(x, y), at(dx, dy)} }
	for _, x := range []struct {
		a, b body
		want int
	}{
		{moving(ball, -100, 0, 160, 0), rest(ball, 0, 0), 512}, {rest(ball, 0, 0), moving(ball, -100, 0, 160, 0), 512}, {moving(ball, -100, 0, 80, 0), moving(ball, 0, 0, -80, 0), 512}, {moving(ball, 0, -100, 0, 160), rest(ball, 0, 0), 512}, {moving(ball, 0, 100, 0, -160), rest(ball, 0, 0), 512},
		// One that is reached after k sub-steps, for every k from 1 on, and one that is missed by the last one.
		{moving(ball, -27, 0, 64, 0), rest(ball, 0, 0), 0}, {moving(ball, -35, 0, 64, 0), rest(ball, 0, 0), 128}, {moving(ball, -43, 0, 64, 0), rest(ball, 0, 0), 256}, {moving(ball, -51, 0, 64, 0), rest(ball, 0, 0), 384}, {moving(ball, -59, 0, 64, 0), rest(ball, 0, 0), 512}, {moving(ball, -67, 0, 64, 0), rest(ball, 0, 0), 640}, {moving(ball, -75, 0, 64, 0), rest(ball, 0, 0), 768}, {moving(ball, -83, 0, 64, 0), rest(ball, 0, 0), 896}, {moving(ball, -84, 0, 64, 0), rest(ball, 0, 0), 1024}, {moving(ball, -91, 0, 64, 0), rest(ball, 0, 0), 1024},
		{moving(ball, -28, 0, 64, 0), rest(ball, 0, 0), 128}, {moving(ball, -76, 0, 64, 0), rest(ball, 0, 0), 896},
		// Those that touch at the start are free, whether they part or stay; those that only lie side by side do not touch.
		{moving(ball, -19, 0, 160, 0), rest(ball, 0, 0), 1024}, {moving(ball, -19, 0, -160, 0), rest(ball, 0, 0), 1024}, {rest(ball, -19, 0), rest(ball, 0, 0), 1024}, {moving(ball, 0, 0, 1, 0), rest(ball, 0, 0), 1024}, {rest(square(50), 3, 3), moving(square(1), 0, 0, 1, 1), 1024}, {moving(ball, -20, 0, 8, 0), rest(ball, 0, 0), 0}, {moving(ball, -20, 0, -8, 0), rest(ball, 0, 0), 1024},
		// The first sub-step at which they touch counts, though they are past each other in the next or never again apart.
		{moving(ball, -60, 0, 400, 0), rest(ball, 0, 0), 0}, {moving(ball, -110, 0, 400, 0), rest(ball, 0, 0), 128}, {moving(ball, -410, 0, 400, 0), rest(ball, 0, 0), 896}, {moving(ball, -33, 0, 16, 0), rest(square(20), 0, 0), 128},
		// Too fast: no sub-step finds them touching.
		{moving(ball, -75, 0, 400, 0), rest(ball, 0, 0), 1024}, {moving(square(5), -1000, 0, 16000, 0), rest(square(20), 0, 0), 1024}, {moving(square(5), -1000, 0, 8000, 0), rest(square(20), 0, 0), 0},
		// Both move: only the way between them counts, and at the same time.
		{moving(ball, -100, 0, 500, 7), moving(ball, 0, 0, 500, 7), 1024}, {moving(ball, -100, 0, 500, 0), moving(ball, 0, 0, 340, 0), 512}, {moving(ball, -100, 0, 160, 0), moving(ball, 0, -100, 0, 160), 512}, {moving(ball, -100, 0, 160, 0), moving(ball, 0, -60, 0, 160), 1024},
		// Shapes pass each other at a side, and by one unit less do not.
		{moving(square(10), 31, 50, 0, -80), rest(square(20), 0, 0), 1024}, {moving(square(10), 30, 50, 0, -80), rest(square(20), 0, 0), 1024}, {moving(square(10), 29, 50, 0, -80), rest(square(20), 0, 0), 256}, {moving(square(10), -29, -50, 0, 80), rest(square(20), 0, 0), 256},
	} {
		expect(t, x.a, x.b, x.want)
	}
}

// TestP6_1_Rounding: a sub-step's way is rounded toward negative infinity, from the start of the tick.
func TestP6_1_Rounding(t *testing.T) {
	for _, x := range []struct{ gap, speed, want int }{
		// Forward, the last sub-step is the first one that moves a body by 1; backward, the first one is.
		{0, 1, 896}, {0, -1, 0}, {0, 2, 384}, {0, -2, 0}, {1, 2, 896}, {1, -2, 512}, {0, 7, 128}, {0, -7, 0}, {5, 7, 768}, {5, -7, 640}, {6, 7, 896}, {6, -7, 768}, {7, 7, 1024}, {7, -7, 1024},
		{2, 9, 256}, {2, -9, 128}, {3, 9, 384}, {8, 9, 896}, {8, -9, 896}, {1, -9, 0}, {1, 9, 128}, {7, 9, 896}, {7, -9, 768},
	} {
		// The gap is what is between them at the start; the fast one is above and to the right if its speed is negative.
		apart := 20 + x.gap
		if x.speed > 0 {
			apart = -apart
		}
		for _, s := range []api.Shape{circle(10), square(10)} {
			still := body{s, at(5, -3), at(0, 0)}
			expect(t, body{s, at(5+apart, -3), at(x.speed, 0)}, still, x.want)
			expect(t, body{s, at(5, apart-3), at(0, x.speed)}, still, x.want)
			expect(t, still, body{s, at(5+apart, -3), at(x.speed, 0)}, x.want)
			expect(t, still, body{s, at(5, apart-3), at(0, x.speed)}, x.want)
		}
	}
}

// TestP6_1_Limits: the fastest bodies, at the ends of the allowed places and beyond them at the end of the tick.
func TestP6_1_Limits(t *testing.T) {
	large := circle(edge)
	// The last sub-step is the first one that moves a body forward by 1; backward, the first one is.
	slow := map[int]int{1: 896, -1: 0}
	for _, sign := range []int{1, -1} {
		out := body{large, at(sign*far, sign*far), at(sign*fast, 0)}
		expect(t, out, body{large, at(sign*far, sign*far-sign*2*edge), at(sign*fast, 0)}, 1024)
		expect(t, out, body{large, at(sign*far, sign*far-sign*2*edge), at(sign*fast, sign)}, slow[sign])
		expect(t, out, body{large, at(sign*(far-2*edge), sign*far), at(-sign*fast, 0)}, 1024)
		expect(t, body{large, at(sign*far, 0), at(-sign*fast, 0)}, body{large, at(sign*(far-2*edge), 0), at(sign*fast, 0)}, 0)
		expect(t, body{large, at(sign*far, 0), at(-sign*fast, 0)}, body{large, at(sign*(far-2*edge-2*fast+1), 0), at(sign*fast, 0)}, 896)
		expect(t, body{large, at(sign*far, 0), at(-sign*fast, 0)}, body{large, at(sign*(far-2*edge-2*fast), 0), at(sign*fast, 0)}, 1024)
		expect(t, body{large, at(sign*far, far), at(fast, -fast)}, body{large, at(-sign*far, -far), at(-fast, fast)}, 1024)
	}
}

// TestP6_1_Squares compares with squares whose contacts are known without package collide.
func TestP6_1_Squares(t *testing.T) {
	r := rand.New(rand.NewSource(61))
	count := map[int]int{}
	for range 60000 {
		size := []int{3, 12, 90, 2000}[r.Intn(4)]
		around := func(n int) api.Vec { return at(r.Intn(2*n+1)-n, r.Intn(2*n+1)-n) }
		h, o := 1+r.Intn(size), 1+r.Intn(size)
		a, b := body{square(h), around(4 * size), around(4 * size)}, body{square(o), around(4 * size), around(4 * size)}
		touch := []bool{}
		for k := range 9 {
			p, q := a.after(k).pos, b.after(k).pos
			touch = append(touch, max(p.X-q.X, q.X-p.X) < h+o && max(p.Y-q.Y, q.Y-p.Y) < h+o)
		}
		count[want(touch)]++
		expect(t, a, b, want(touch))
	}
	for k := range 9 {
		if count[128*k] < 100 {
			t.Errorf("few of one kind: %v", count)
		}
	}
}

func TestP6_1_Computed(t *testing.T) {
	count := map[int]int{}
	courses(func(a, b body) {
		touch := touches(a, b)
		count[want(touch)]++
		expect(t, a, b, want(touch))
	})
	for k := range 9 {
		if count[128*k] < 50 {
			t.Errorf("few of one kind: %v", count)
		}
	}
}

func TestP6_2_Safety(t *testing.T) {
	stopped, free := 0, 0
	courses(func(a, b body) {
		f := earliest(a, b)
		if f < 0 || f > 1024 || f%128 != 0 {
			t.Errorf("Earliest%v%v = %d", a, b, f)
			return
		}
		touch := touches(a, b)
		if touch[0] {
			return
		}
		k := f * 8 / 1024
		if slices.Contains(touch[:k+1], true) {
			t.Errorf("Earliest%v%v = %d, they touch: %v", a, b, f, touch)
		}
		if f == 1024 {
			free++
			return
		}
		stopped++
		if !touch[k+1] {
			t.Errorf("Earliest%v%v = %d, they do not touch after one sub-step more: %v", a, b, f, touch)
		}
	})
	if stopped < 1000 || free < 1000 {
		t.Errorf("few of one kind: %d stopped, %d free", stopped, free)
	}
}

// throughWall looks at a circle that starts at a distance before an upright wall and ends behind it: it is stopped before the wall.
func throughWall(t *testing.T, wall body, halfWidth, radius, distance, speed, slant int) {
	t.Helper()
	for _, way := range []int{1, -1} {
		start := wall.pos.X - way*(halfWidth+radius+distance)
		ball := body{circle(radius), at(start, wall.pos.Y-slant/2), at(way*speed, slant)}
		if !ball.allowed() {
			continue
		}
		for _, f := range []int{earliest(ball, wall), earliest(wall, ball)} {
			stop := ball.after(f * 8 / 1024).pos.X
			if f >= 1024 || way*(wall.pos.X-stop) < halfWidth+radius {
				t.Errorf("%v comes through %v: %d", ball, wall, f)
			}
		}
	}
}

func TestP6_3_NoTunnelling(t *testing.T) {
	count := 0
	for _, halfWidth := range []int{1, 2, 17, 500, 4000} {
		for _, radius := range []int{1, 2, 3, 40, 1000, 4000} {
			width := 2*halfWidth + 2*radius
			most := min(8*(width-2), fast)
			for _, speed := range []int{most, most - 1, most - 7, most * 3 / 4} {
				// All distances at which it ends behind the wall, or many of them.
				for distance := 0; distance <= speed-width; distance += max(1, speed/97) {
					wall := body{slab(halfWidth, 20000), at(-300, 71), at(0, 0)}
					for _, slant := range []int{0, 5, -speed / 3, speed} {
						throughWall(t, wall, halfWidth, radius, distance, speed, slant)
						count++
					}
				}
			}
		}
	}
	if count < 5000 {
		t.Errorf("only %d tried", count)
	}
}

// TestP6_3_Places: walls in all places, high and low ones.
func TestP6_3_Places(t *testing.T) {
	r := rand.New(rand.NewSource(63))
	for range 20000 {
		halfWidth, radius := 1+r.Intn(30), 1+r.Intn(30)
		width := 2*halfWidth + 2*radius
		speed := width + r.Intn(7*width-15)
		wall := body{slab(halfWidth, 1+r.Intn(30)*r.Intn(1000)), at(r.Intn(2*far)-far, r.Intn(2*far)-far), at(0, 0)}
		throughWall(t, wall, halfWidth, radius, r.Intn(speed-width+1), speed, 0)
	}
}

// TestP6_3_Faster: what moves by more in a sub-step than the wall and itself are wide may come through.
func TestP6_3_Faster(t *testing.T) {
	wall := body{slab(5, 1000), at(0, 0), at(0, 0)}
	for _, x := range []struct{ x, speed, want int }{{-15, 8 * 30, 1024}, {-15, 8 * 29, 0}, {-16, 8 * 30, 0}, {-45, 8 * 30, 1024}, {-44, 8 * 30, 0}, {-225, 8 * 30, 1024}, {-224, 8 * 30, 768}, {-255, 8 * 30, 1024}, {-254, 8 * 30, 896}} {
		expect(t, body{circle(10), at(x.x, 3), at(x.speed, 0)}, wall, x.want)
	}
}

func TestP6_4_WithoutVelocity(t *testing.T) {
	count := map[bool]int{}
	courses(func(a, b body) {
		a.vel, b.vel = at(0, 0), at(0, 0)
		count[meet(a, b)]++
		expect(t, a, b, 1024)
	})
	if count[true] < 1000 || count[false] < 1000 {
		t.Errorf("few of one kind: %v", count)
	}
}

// whole returns the rectangle around the bounds of a body at the start and at the end of the tick.
func whole(b body) api.Box {
	p, q := shape.Bounds(b.shape, b.pos), shape.Bounds(b.shape, b.after(8).pos)
	return api.Box{X0: min(p.X0, q.X0), Y0: min(p.Y0, q.Y0), X1: max(p.X1, q.X1), Y1: max(p.Y1, q.Y1)}
}

func TestP6_4_BoundsApart(t *testing.T) {
	count := 0
	look := func(a, b body) {
		if !broadphase.Overlap(whole(a), whole(b)) {
			expect(t, a, b, 1024)
			count++
		}
	}
	courses(look)
	// Boxes that are apart by one unit, on every side.
	courses(func(a, b body) {
		p, q := whole(a), whole(b)
		for _, by := range []api.Vec{at(p.X1+1-q.X0, 0), at(p.X0-1-q.X1, 0), at(0, p.Y1+1-q.Y0), at(0, p.Y0-1-q.Y1)} {
			if b.moved(by).allowed() {
				look(a, b.moved(by))
			}
		}
	})
	if count < 10000 {
		t.Errorf("only %d tried", count)
	}
}

func TestP6_4_Moved(t *testing.T) {
	count := map[int]int{}
	courses(func(a, b body) {
		want := earliest(a, b)
		for _, by := range []api.Vec{at(1, 0), at(0, -1), at(3, 3), at(-700, 500), at(900, -21)} {
			by = at(by.X*1024, by.Y*1024)
			if a.moved(by).allowed() && b.moved(by).allowed() {
				count[want]++
				expect(t, a.moved(by), b.moved(by), want)
			}
		}
	})
	for k := range 9 {
		if count[128*k] < 100 {
			t.Errorf("few of one kind: %v", count)
		}
	}
}

// TestArgumentsStay holds the call to rule R4: the lists of vertices, with what lies beyond their length, are not changed.
func TestArgumentsStay(t *testing.T) {
	courses(func(a, b body) {
		p, q := slices.Concat(a.shape.Poly, []api.Vec{at(77, 77), at(-5, 5)}), slices.Concat(b.shape.Poly, []api.Vec{at(8, 9)})
		beforeP, beforeQ := slices.Clone(p), slices.Clone(q)
		a.shape.Poly, b.shape.Poly = p[:len(p)-2], q[:len(q)-1]
		earliest(a, b)
		if !slices.Equal(p, beforeP) || !slices.Equal(q, beforeQ) {
			t.Errorf("%v and %v became %v and %v", beforeP, beforeQ, p, q)
		}
	})
}

// TestEmptyLists holds the call to rule R4: a circle with an empty list of vertices is one with none.
func TestEmptyLists(t *testing.T) {
	empty := api.Shape{Radius: 10, Poly: []api.Vec{}}
	for _, s := range []api.Shape{empty, circle(10)} {
		expect(t, body{empty, at(-100, 0), at(160, 0)}, body{s, at(0, 0), at(0, 0)}, 512)
		expect(t, body{s, at(-100, 0), at(160, 0)}, body{empty, at(0, 0), at(0, 0)}, 512)
	}
}

// TestOutsideTheDomain holds the call to no result: it only has to end without a panic.
func TestOutsideTheDomain(t *testing.T) {
	wild := []int{math.MinInt, math.MinInt + 1, -1 << 32, -far - 1, 0, 1, far + 1, 1 << 31, 3 << 31, math.MaxInt}
	l := []api.Shape{{}, {Radius: -1}, {Radius: math.MinInt}, {Radius: math.MaxInt}, {Radius: 3, Poly: []api.Vec{{X: 1}}}, poly(1, 2, 3, 4), {Poly: make([]api.Vec, 7)}, {Poly: make([]api.Vec, 1000)}, circle(5), square(2)}
	for _, n := range wild {
		l = append(l, poly(n, -n, n, n, -n, n), poly(0, n, n, 1))
	}
	for _, s := range l {
		for _, o := range l {
			for _, n := range wild {
				earliest(body{s, at(0, 0), at(n, -n)}, body{o, at(n, n), at(1, n)})
				earliest(body{s, at(n, 0), at(-n, 3)}, body{o, at(-n, 2), at(n, n)})
			}
		}
	}
}
