package collide_test

import (
	"math"
	"math/big"
	"math/rand"
	"slices"
	"testing"

	"arenanet/api"
	"arenanet/collide"
	"arenanet/shape"
	"arenanet/vec"
)

// far is the largest absolute value that the components of positions may have.
const far = 2 * api.MaxCoord

// edge is the largest absolute value that a vertex's components may have.
const edge = api.MaxRadius

func at(x, y int) api.Vec { return api.Vec{X: x, Y: y} }

func circle(radius int) api.Shape { return api.Shape{Radius: radius} }

// poly returns the polygon with these components, X and Y by turns.
func poly(l ...int) api.Shape {
	s := api.Shape{}
	for i := 0; i+1 < len(l); i += 2 {
		s.Poly = append(s.Poly, at(l[i], l[i+1]))
	}
	return s
}

// square returns the square with this half side.
func square(h int) api.Shape { return poly(-h, -h, h, -h, h, h, -h, h) }

// diamond returns the square that stands on a corner, with this half diagonal.
func diamond(h int) api.Shape { return poly(0, -h, h, 0, 0, h, -h, 0) }

// fixedPolygons returns valid polygons: small, large and thin ones, with every allowed number of vertices.
func fixedPolygons() []api.Shape {
	return []api.Shape{
		poly(-1, -1, 1, -1, 0, 1), square(2), diamond(1), poly(0, 3, -3, 1, -2, -3, 2, -3, 3, 1), poly(2, 0, 1, 2, -1, 2, -2, 0, -1, -2, 1, -2),
		square(1000), square(edge), diamond(2000), diamond(edge), poly(edge, edge, -edge, 1-edge, 1-edge, -edge), poly(-edge, -1, edge, 0, 0, 1),
		poly(edge, 0, edge/2, edge, -edge/2, edge, -edge, 0, -edge/2, -edge, edge/2, -edge), poly(-7000, -5000, 9000, -6000, 12000, 3, 10, 8000),
	}
}

// randomPolygon returns a valid polygon with vertices at rising angles, whose components are of at most size.
func randomPolygon(r *rand.Rand, size int) api.Shape {
	for {
		angles := []float64{}
		for range 3 + r.Intn(4) {
			angles = append(angles, r.Float64()*2*math.Pi)
		}
		slices.Sort(angles)
		s := api.Shape{}
		for _, angle := range angles {
			length := float64(size) * (0.6 + 0.4*r.Float64())
			s.Poly = append(s.Poly, at(int(length*math.Cos(angle)), int(length*math.Sin(angle))))
		}
		if shape.Validate(s) == api.OK {
			return s
		}
	}
}

// polygons returns the fixed polygons and random ones of several sizes, the same in every run.
func polygons() []api.Shape {
	r := rand.New(rand.NewSource(5))
	l := fixedPolygons()
	for _, size := range []int{6, 90, 3000, edge} {
		for range 6 {
			l = append(l, randomPolygon(r, size))
		}
	}
	return l
}

func circles() []api.Shape {
	l := []api.Shape{}
	for _, r := range []int{1, 2, 5, 70, 1000, 1539, 5000, api.MaxRadius - 1, api.MaxRadius} {
		l = append(l, circle(r))
	}
	return l
}

func shapes() []api.Shape { return append(circles(), polygons()...) }

// meeting is what a call of Axes or Collide takes.
type meeting struct {
	a  api.Shape
	pa api.Vec
	b  api.Shape
	pb api.Vec
}

func (m meeting) axes() []api.Vec { return collide.Axes(m.a, m.pa, m.b, m.pb) }

func (m meeting) collide() (api.Contact, bool) { return collide.Collide(m.a, m.pa, m.b, m.pb) }

func (m meeting) exchanged() meeting { return meeting{m.b, m.pb, m.a, m.pa} }

func (m meeting) moved(by api.Vec) meeting {
	return meeting{m.a, vec.Add(m.pa, by), m.b, vec.Add(m.pb, by)}
}

// reach returns the greatest absolute value of a component of the points that the shape covers at the origin.
func reach(s api.Shape) int {
	n := s.Radius
	for _, v := range s.Poly {
		n = max(n, v.X, -v.X, v.Y, -v.Y)
	}
	return n
}

// limited returns the nearest place whose components are not beyond the allowed ones.
func limited(p api.Vec) api.Vec { return at(min(max(p.X, -far), far), min(max(p.Y, -far), far)) }

// meetings returns every two shapes (also one with itself) at the same place, a little apart, about as far apart as they
// touch, and anywhere.
func meetings() []meeting {
	r := rand.New(rand.NewSource(51))
	around := func(n int) api.Vec { return at(r.Intn(2*n+1)-n, r.Intn(2*n+1)-n) }
	l := []meeting{}
	for _, a := range shapes() {
		for _, b := range shapes() {
			size := reach(a) + reach(b)
			pa := around(far)
			l = append(l, meeting{a, pa, b, pa}, meeting{a, around(far), b, around(far)}, meeting{a, at(far, far), b, limited(vec.Add(at(far, far), around(size)))}, meeting{a, at(-far, far), b, at(far, -far)})
			for _, n := range []int{2, size / 2, size, size, size + size/4} {
				pa := around(far)
				l = append(l, meeting{a, pa, b, limited(vec.Add(pa, around(n)))})
			}
		}
	}
	return l
}

// floor returns n/d, rounded toward negative infinity, for a positive d.
func floor(n, d int) int {
	return int(new(big.Int).Div(big.NewInt(int64(n)), big.NewInt(int64(d))).Int64())
}

// wantAxis computes the axis in a direction.
func wantAxis(x, y int) api.Vec {
	if x == 0 && y == 0 {
		return at(1024, 0)
	}
	length := int(new(big.Int).Sqrt(big.NewInt(int64(x*x + y*y))).Int64())
	return at(floor(x*1024, length), floor(y*1024, length))
}

// wantAxes computes the axes by another way than the program's.
func wantAxes(m meeting) []api.Vec {
	l := []api.Vec{}
	for _, s := range []api.Shape{m.a, m.b} {
		around := append(slices.Clone(s.Poly), s.Poly[:min(1, len(s.Poly))]...)
		for i := 1; i < len(around); i++ {
			l = append(l, wantAxis(around[i].Y-around[i-1].Y, around[i-1].X-around[i].X))
		}
	}
	switch {
	case len(m.a.Poly) > 0 && len(m.b.Poly) > 0:
		return l
	case len(m.a.Poly) > 0:
		m = m.exchanged()
	case len(m.b.Poly) == 0:
		return append(l, wantAxis(m.pb.X-m.pa.X, m.pb.Y-m.pa.Y))
	}
	ways := []api.Vec{}
	for _, v := range m.b.Poly {
		ways = append(ways, at(m.pb.X+v.X-m.pa.X, m.pb.Y+v.Y-m.pa.Y))
	}
	slices.SortStableFunc(ways, func(p, q api.Vec) int { return p.X*p.X + p.Y*p.Y - q.X*q.X - q.Y*q.Y })
	return append(l, wantAxis(ways[0].X, ways[0].Y))
}

// ends computes both ends of a shape's projection.
func ends(s api.Shape, pos, axis api.Vec) (low, high int) {
	l := []int{}
	for _, v := range s.Poly {
		l = append(l, floor((pos.X+v.X)*axis.X+(pos.Y+v.Y)*axis.Y, 1024))
	}
	if len(s.Poly) == 0 {
		n := floor(pos.X*axis.X+pos.Y*axis.Y, 1024)
		l = append(l, n-s.Radius, n+s.Radius)
	}
	return slices.Min(l), slices.Max(l)
}

func wantDepth(m meeting, axis api.Vec) int {
	lowA, highA := ends(m.a, m.pa, axis)
	lowB, highB := ends(m.b, m.pb, axis)
	return min(highA, highB) - max(lowA, lowB)
}

// wantCollide computes the contact by another way than the program's.
func wantCollide(m meeting) (api.Contact, bool) {
	if wantDepth(m, at(1024, 0)) < 0 || wantDepth(m, at(0, 1024)) < 0 {
		return api.Contact{}, false
	}
	axes, depths := wantAxes(m), []int{}
	for _, axis := range axes {
		depths = append(depths, wantDepth(m, axis))
	}
	least := slices.Min(depths)
	if least <= 0 {
		return api.Contact{}, false
	}
	normal := axes[slices.Index(depths, least)]
	if (m.pb.X-m.pa.X)*normal.X+(m.pb.Y-m.pa.Y)*normal.Y < 0 {
		normal = at(-normal.X, -normal.Y)
	}
	return api.Contact{Normal: normal, Depth: least}, true
}

func expectAxes(t *testing.T, m meeting, want []api.Vec) {
	t.Helper()
	if got := m.axes(); !slices.Equal(got, want) {
		t.Errorf("Axes%v = %v, want %v", m, got, want)
	}
}

func expectContact(t *testing.T, m meeting, want api.Contact, wantOK bool) {
	t.Helper()
	if got, ok := m.collide(); got != want || ok != wantOK {
		t.Errorf("Collide%v = %v, %v, want %v, %v", m, got, ok, want, wantOK)
	}
}

// TestShapesAreValid looks at what the other tests are made of.
func TestShapesAreValid(t *testing.T) {
	for _, s := range shapes() {
		if shape.Validate(s) != api.OK {
			t.Errorf("%v is not valid", s)
		}
	}
}

func TestP5_1_Examples(t *testing.T) {
	sides := []api.Vec{at(0, -1024), at(1024, 0), at(0, 1024), at(-1024, 0)}
	slanted := []api.Vec{at(724, -725), at(724, 724), at(-725, 724), at(-725, -725)}
	triangle := poly(-1, -1, 1, -1, 0, 1)
	corner := []api.Vec{at(0, -1024), at(1024, 512), at(-1024, 512)}
	for _, x := range []struct {
		m    meeting
		want []api.Vec
	}{
		// Two circles: from the first to the second, wherever they are and whether they meet or not.
		{meeting{circle(5), at(0, 0), circle(9), at(3072, 4096)}, []api.Vec{at(614, 819)}}, {meeting{circle(5), at(3072, 4096), circle(9), at(0, 0)}, []api.Vec{at(-615, -820)}}, {meeting{circle(5), at(7, 9), circle(9), at(10, 5)}, []api.Vec{at(614, -820)}},
		{meeting{circle(5), at(7, 9), circle(9), at(8, 10)}, []api.Vec{at(1024, 1024)}}, {meeting{circle(1), at(-far, far), circle(1), at(far, far)}, []api.Vec{at(1024, 0)}}, {meeting{circle(1), at(far, far), circle(1), at(far, -far)}, []api.Vec{at(0, -1024)}}, {meeting{circle(edge), at(-far, -far), circle(edge), at(far, far)}, []api.Vec{at(724, 724)}},
		// Two polygons: the edges of the first, then those of the second, equal ones too; the places do not matter.
		{meeting{square(1000), at(0, 0), diamond(1000), at(5, 5)}, slices.Concat(sides, slanted)}, {meeting{diamond(1000), at(far, -far), square(1000), at(-far, 0)}, slices.Concat(slanted, sides)}, {meeting{square(1), at(0, 0), square(edge), at(0, 0)}, slices.Concat(sides, sides)},
		{meeting{triangle, at(0, 0), square(3), at(1, 2)}, slices.Concat(corner, sides)}, {meeting{poly(0, 1, -1, -1, 1, -1), at(0, 0), triangle, at(9, 9)}, slices.Concat(corner[2:], corner[:2], corner)},
		// One circle: the edges, then from the circle to the nearest vertex, whichever shape comes first.
		{meeting{square(1000), at(0, 0), circle(9), at(4000, 5000)}, append(slices.Clone(sides), at(-615, -820))}, {meeting{circle(9), at(4000, 5000), square(1000), at(0, 0)}, append(slices.Clone(sides), at(-615, -820))}, {meeting{circle(9), at(-4000, 5000), square(1000), at(0, 0)}, append(slices.Clone(sides), at(614, -820))},
		{meeting{triangle, at(100, 50), circle(1), at(100, 60)}, append(slices.Clone(corner), at(0, -1024))}, {meeting{triangle, at(100, 50), circle(1), at(96, 46)}, append(slices.Clone(corner), at(768, 768))},
	} {
		expectAxes(t, x.m, x.want)
	}
}

// TestP5_1_SamePoint: an axis that would be the zero vector is that of X.
func TestP5_1_SamePoint(t *testing.T) {
	for _, p := range []api.Vec{at(0, 0), at(-7, 1025), at(far, -far)} {
		expectAxes(t, meeting{circle(3), p, circle(800), p}, []api.Vec{at(1024, 0)})
	}
	for _, s := range polygons() {
		for _, v := range s.Poly {
			m := meeting{s, at(-500, 77), circle(4), vec.Add(at(-500, 77), v)}
			for _, l := range [][]api.Vec{m.axes(), m.exchanged().axes()} {
				if len(l) != len(s.Poly)+1 || l[len(s.Poly)] != at(1024, 0) {
					t.Errorf("a circle on the vertex %v of %v: %v", v, s, l)
				}
			}
		}
	}
}

func TestP5_1_NearestVertex(t *testing.T) {
	pos := at(-3000, 40)
	for _, x := range []struct {
		s         api.Shape
		from, way api.Vec // both from the polygon's position
	}{
		// Of several as near as each other, the first one of the list counts.
		{square(100), at(0, 0), at(-100, -100)}, {poly(100, 100, -100, 100, -100, -100, 100, -100), at(0, 0), at(100, 100)}, {square(100), at(150, 0), at(-50, -100)}, {square(100), at(0, 300), at(100, -200)}, {square(100), at(-150, 0), at(50, -100)}, {square(100), at(0, -300), at(-100, 200)}, {diamond(8), at(20, -20), at(-20, 12)},
		// The nearest one is told from the next by the least difference, at far and at near places.
		{square(100), at(1, 0), at(99, -100)}, {square(100), at(0, 1), at(100, 99)}, {square(100), at(-1, 1), at(-99, 99)}, {square(edge), at(1, 1), at(edge-1, edge-1)}, {square(1), at(100001, 1), at(-100000, 0)}, {square(1), at(100001, -1), at(-100000, 0)}, {square(2), at(-1, -1000000), at(-1, 999998)},
		{poly(-3, 0, 1, -3, 4, 0, 0, 3), at(0, 0), at(-3, 0)}, {poly(-3, -1, 1, -3, 4, 0, 0, 3), at(0, 0), at(0, 3)},
		// What is the nearest vertex does not hang on the sum of the components or on the greater one of them.
		{poly(7, 7, -9, 1, 0, -9), at(1, 0), at(-1, -9)}, {poly(7, 7, -9, 0, 1, -11), at(0, 0), at(-9, 0)}, {poly(10, 1, -8, 7, -8, -7), at(0, 0), at(10, 1)},
	} {
		if shape.Validate(x.s) != api.OK {
			t.Fatalf("%v is not valid", x.s)
		}
		m := meeting{x.s, pos, circle(3), vec.Add(pos, x.from)}
		want := wantAxis(x.way.X, x.way.Y)
		for _, l := range [][]api.Vec{m.axes(), m.exchanged().axes()} {
			if len(l) != len(x.s.Poly)+1 || l[len(x.s.Poly)] != want {
				t.Errorf("%v, circle at %v from it: %v, want %v at the end", x.s, x.from, l, want)
			}
		}
	}
}

func TestP5_1_Computed(t *testing.T) {
	for _, m := range meetings() {
		expectAxes(t, m, wantAxes(m))
	}
}

func TestP5_2_Examples(t *testing.T) {
	none := api.Contact{}
	bar := poly(-900, -1100, 1100, 900, 900, 1100, -1100, -900)
	contact := func(x, y, depth int) api.Contact { return api.Contact{Normal: at(x, y), Depth: depth} }
	for _, x := range []struct {
		m    meeting
		want api.Contact
	}{
		{meeting{circle(2048), at(0, 0), circle(2048), at(3072, 0)}, contact(1024, 0, 1024)}, {meeting{circle(2048), at(3072, 0), circle(2048), at(0, 0)}, contact(-1024, 0, 1024)}, {meeting{circle(100), at(0, 0), circle(20), at(0, -110)}, contact(0, -1024, 10)},
		// What only touches does not collide.
		{meeting{circle(100), at(0, 0), circle(20), at(120, 0)}, none}, {meeting{circle(100), at(0, 0), circle(20), at(119, 0)}, contact(1024, 0, 1)}, {meeting{square(100), at(9, 9), square(20), at(129, 9)}, none}, {meeting{square(100), at(9, 9), square(20), at(128, 9)}, contact(1024, 0, 1)}, {meeting{square(100), at(9, 9), square(20), at(129, 129)}, none},
		{meeting{square(100), at(0, 0), circle(20), at(-120, 5)}, none}, {meeting{square(100), at(0, 0), circle(20), at(-119, 5)}, contact(-1024, 0, 1)}, {meeting{circle(20), at(-119, 5), square(100), at(0, 0)}, contact(1024, 0, 1)},
		// The bounds overlap, and only an edge of the first, an edge of the second or the way to the nearest vertex separates.
		{meeting{diamond(1000), at(0, 0), square(500), at(1000, 1000)}, none}, {meeting{diamond(1000), at(0, 0), square(500), at(999, 1000)}, contact(724, 724, 1)}, {meeting{square(500), at(1000, 1000), diamond(1000), at(0, 0)}, none}, {meeting{square(500), at(999, 1000), diamond(1000), at(0, 0)}, contact(-724, -724, 1)},
		{meeting{square(1000), at(0, 0), circle(500), at(1400, 1400)}, none}, {meeting{square(1000), at(0, 0), circle(500), at(1340, 1340)}, contact(726, 726, 17)}, {meeting{circle(500), at(1340, 1340), square(1000), at(0, 0)}, contact(-726, -726, 17)}, {meeting{circle(500), at(0, 0), circle(500), at(800, 800)}, none},
		// One inside the other: depth is what the ranges share.
		{meeting{circle(2048), at(5, 5), circle(2048), at(5, 5)}, contact(1024, 0, 4096)}, {meeting{circle(2048), at(5, 5), circle(100), at(5, 5)}, contact(1024, 0, 200)}, {meeting{circle(2048), at(5, 5), circle(100), at(5, -1000)}, contact(0, -1024, 200)}, {meeting{circle(10), at(6, 5), circle(5000), at(5, 5)}, contact(-1024, 0, 20)}, {meeting{square(50), at(0, 0), square(1000), at(300, -7)}, contact(0, -1024, 100)},
		// Of equal depths the first axis counts, and is turned around where it would point from the second to the first.
		{meeting{square(1000), at(0, 0), square(500), at(0, 0)}, contact(0, -1024, 1000)}, {meeting{square(1000), at(0, 0), square(500), at(0, 1)}, contact(0, 1024, 1000)}, {meeting{square(1000), at(0, 0), square(500), at(0, -1)}, contact(0, -1024, 1000)}, {meeting{square(1000), at(0, 0), square(500), at(900, 900)}, contact(0, 1024, 600)}, {meeting{square(1000), at(0, 0), square(500), at(900, -900)}, contact(0, -1024, 600)},
		{meeting{square(1000), at(0, 0), square(500), at(-900, 899)}, contact(-1024, 0, 600)}, {meeting{poly(1000, -1000, 1000, 1000, -1000, 1000, -1000, -1000), at(0, 0), square(500), at(0, 0)}, contact(1024, 0, 1000)}, {meeting{poly(-1000, 1000, -1000, -1000, 1000, -1000, 1000, 1000), at(0, 0), square(500), at(0, 0)}, contact(-1024, 0, 1000)},
		// A product between -1 and 0 is negative.
		{meeting{bar, at(0, 0), bar, at(0, 0)}, contact(724, -725, 285)}, {meeting{bar, at(0, 0), bar, at(1, 1)}, contact(-724, 725, 285)},
		{meeting{circle(edge), at(far, far), circle(edge), at(far-2*edge+1, far)}, contact(-1024, 0, 1)}, {meeting{circle(edge), at(-far, far), circle(edge), at(far, far)}, none}, {meeting{square(edge), at(-far, -far), square(edge), at(2*edge-far, -far)}, none}, {meeting{square(edge), at(-far, -far), square(edge), at(2*edge-far-1, -far)}, contact(1024, 0, 1)},
	} {
		expectContact(t, x.m, x.want, x.want != none)
	}
}

// TestP5_2_BoundsApart: circles whose bounds do not overlap, while the rounded axis between them has a positive depth.
func TestP5_2_BoundsApart(t *testing.T) {
	found := 0
	for _, x := range []struct{ radius, apart, aside int }{{1539, 1, 79}, {2421, 2, 114}, {3195, 3, 128}, {3525, 2, 137}, {3709, 3, 161}} {
		for _, way := range []api.Vec{at(2*x.radius+x.apart, x.aside), at(x.aside, 2*x.radius+x.apart)} {
			m := meeting{circle(x.radius), at(0, 0), circle(x.radius), way}
			if wantDepth(m, wantAxes(m)[0]) <= 0 {
				t.Errorf("no positive depth: %v", m)
			}
			for _, m := range []meeting{m, m.exchanged(), m.moved(at(5*1024, -9*1024))} {
				expectContact(t, m, api.Contact{}, false)
			}
		}
	}
	for dx := 2*edge + 1; dx < 2*edge+20; dx++ {
		for dy := range 600 {
			m := meeting{circle(edge), at(0, 0), circle(edge), at(dx, dy)}
			if wantDepth(m, wantAxes(m)[0]) > 0 {
				found++
			}
			expectContact(t, m, api.Contact{}, false)
		}
	}
	if found == 0 {
		t.Error("none with a positive depth among the large circles")
	}
}

// TestP5_2_Small puts small shapes at all places around each other, and around several places.
func TestP5_2_Small(t *testing.T) {
	l := []api.Shape{circle(1), circle(3), square(1), square(2), diamond(3), poly(-1, -1, 1, -1, 0, 1), poly(3, 0, 0, 2, -2, -1), poly(2, 0, 1, 2, -1, 2, -2, 0, -1, -2, 1, -2)}
	for _, a := range l {
		for _, b := range l {
			for _, pa := range []api.Vec{at(0, 0), at(-1000, 3), at(far-8, 8-far)} {
				for i := range 17 * 17 {
					m := meeting{a, pa, b, vec.Add(pa, at(i%17-8, i/17-8))}
					want, ok := wantCollide(m)
					expectContact(t, m, want, ok)
				}
			}
		}
	}
}

func TestP5_2_Computed(t *testing.T) {
	count := map[bool]int{}
	for _, m := range meetings() {
		want, ok := wantCollide(m)
		expectContact(t, m, want, ok)
		count[ok]++
	}
	if count[true] < 1000 || count[false] < 1000 {
		t.Errorf("few of one kind: %v", count)
	}
}

func TestP5_3_Moved(t *testing.T) {
	for _, m := range meetings() {
		want, ok := m.collide()
		for _, by := range []api.Vec{at(1, 0), at(0, -1), at(3, 3), at(-700, 1024), at(2048, -2048)} {
			by = at(by.X*api.One, by.Y*api.One)
			to := m.moved(by)
			if limited(to.pa) != to.pa || limited(to.pb) != to.pb {
				continue
			}
			expectContact(t, to, want, ok)
		}
	}
}

func TestP5_3_Exchanged(t *testing.T) {
	for _, m := range meetings() {
		if len(m.a.Poly) == 0 || len(m.b.Poly) == 0 {
			continue
		}
		one, ok := m.collide()
		other, also := m.exchanged().collide()
		if ok != also || one.Depth != other.Depth {
			t.Errorf("%v: %v, %v; exchanged: %v, %v", m, one, ok, other, also)
		}
	}
}

func TestP5_3_LargerCircle(t *testing.T) {
	for _, m := range meetings() {
		if len(m.b.Poly) > 0 {
			continue
		}
		for _, radius := range []int{m.b.Radius + 1, m.b.Radius + 2, m.b.Radius * 3 / 2, 2 * m.b.Radius, api.MaxRadius} {
			larger := m
			larger.b = circle(min(radius, api.MaxRadius))
			for _, x := range [][2]meeting{{m, larger}, {m.exchanged(), larger.exchanged()}} {
				before, ok := x[0].collide()
				if after, also := x[1].collide(); ok && (!also || after.Depth < before.Depth) {
					t.Errorf("%v: %v; with the larger circle %d: %v, %v", x[0], before, larger.b.Radius, after, also)
				}
			}
		}
	}
}

// coversCross reports whether the shape at the origin covers p and the four points at a distance of 4 * One from it.
func coversCross(s api.Shape, p api.Vec) bool {
	for _, d := range []api.Vec{at(0, 0), at(4*api.One, 0), at(-4*api.One, 0), at(0, 4*api.One), at(0, -4*api.One)} {
		if !shape.Contains(s, api.Vec{}, vec.Add(p, d)) {
			return false
		}
	}
	return true
}

// outermost returns, of the points whose cross the shape covers, the first one found and the last ones on the ways from it to
// all sides. (There is no gap on such a way, since shapes are convex.)
func outermost(s api.Shape) []api.Vec {
	l := []api.Vec{}
	for i := 0; i < 41*41 && len(l) == 0; i++ {
		// The middle of the range first.
		if p := at(((i+20)%41-20)*edge/20, ((i/41+20)%41-20)*edge/20); coversCross(s, p) {
			l = append(l, p)
		}
	}
	for _, from := range slices.Clone(l) {
		for k := range 24 {
			angle := float64(k) * math.Pi / 12
			point := func(n int) api.Vec {
				return at(from.X+int(float64(n)*math.Cos(angle)), from.Y+int(float64(n)*math.Sin(angle)))
			}
			low, high := 0, 4*edge
			for low+1 < high {
				if middle := (low + high) / 2; coversCross(s, point(middle)) {
					low = middle
				} else {
					high = middle
				}
			}
			l = append(l, point(low))
		}
	}
	return l
}

// longEdges reports whether every edge has a component of at least One.
func longEdges(s api.Shape) bool {
	for i, v := range s.Poly {
		d := vec.Sub(s.Poly[(i+1)%len(s.Poly)], v)
		if max(d.X, -d.X, d.Y, -d.Y) < api.One {
			return false
		}
	}
	return true
}

// TestP5_4_Soundness lays every two shapes so that outermost points of both coincide.
func TestP5_4_Soundness(t *testing.T) {
	r := rand.New(rand.NewSource(54))
	l := []api.Shape{circle(4 * api.One), circle(4*api.One + 1), circle(5000), circle(20000), circle(edge), poly(-edge, 0, 0, -5000, edge, 0, 0, 5000), poly(-20000, -20000, 20000, -4200, -20000, 16000), diamond(4*api.One + 4)}
	for _, size := range []int{7000, 12000, edge} {
		for range 6 {
			l = append(l, randomPolygon(r, size))
		}
	}
	l = append(l, polygons()...)
	count := 0
	for _, a := range l {
		for _, b := range l {
			if !longEdges(a) || !longEdges(b) {
				continue
			}
			for _, p := range outermost(a) {
				for _, q := range outermost(b) {
					pa := at(far/2-r.Intn(far), far/2-r.Intn(far))
					m := meeting{a, pa, b, vec.Add(pa, vec.Sub(p, q))}
					count++
					if _, ok := m.collide(); !ok {
						t.Fatalf("%v do not collide, though both cover %v and the points around it", m, vec.Add(pa, p))
					}
				}
			}
		}
	}
	if count < 10000 {
		t.Errorf("only %d tried", count)
	}
}

func TestP5_5_DepthAndNormal(t *testing.T) {
	for _, m := range meetings() {
		for _, m := range []meeting{m, {m.a, m.pa, m.b, limited(vec.Add(m.pa, at(1, 0)))}, {m.a, m.pa, m.b, limited(vec.Add(m.pa, at(0, -1)))}, {m.a, m.pa, m.b, limited(vec.Add(m.pa, at(1, 1)))}} {
			got, ok := m.collide()
			if ok && (got.Depth <= 0 || vec.Dot(vec.Sub(m.pb, m.pa), got.Normal) < 0) {
				t.Errorf("Collide%v = %v", m, got)
			}
			if !ok && got != (api.Contact{}) {
				t.Errorf("Collide%v = %v beside false", m, got)
			}
		}
	}
}

// TestArgumentsStay holds the calls to rule R4: the lists of vertices, with what lies beyond their length, are not changed, and
// what a call returned has no part in what later calls return.
func TestArgumentsStay(t *testing.T) {
	l := shapes()
	for i, s := range l {
		other := l[(i+7)%len(l)]
		wholeA, wholeB := slices.Concat(s.Poly, []api.Vec{at(77, 77), at(-5, 5)}), slices.Concat(other.Poly, []api.Vec{at(8, 9)})
		beforeA, beforeB := slices.Clone(wholeA), slices.Clone(wholeB)
		m := meeting{api.Shape{Radius: s.Radius, Poly: wholeA[:len(s.Poly)]}, at(3, 4), api.Shape{Radius: other.Radius, Poly: wholeB[:len(other.Poly)]}, at(5, 6)}
		m.collide()
		axes := m.axes()
		for k := range axes {
			axes[k] = at(-1, -1)
		}
		expectAxes(t, m, wantAxes(m))
		if !slices.Equal(wholeA, beforeA) || !slices.Equal(wholeB, beforeB) {
			t.Errorf("%v and %v became %v and %v", beforeA, beforeB, wholeA, wholeB)
		}
	}
}

// TestEmptyLists holds the calls to rule R4: a circle with an empty list of vertices is one with none.
func TestEmptyLists(t *testing.T) {
	empty := api.Shape{Radius: 2048, Poly: []api.Vec{}}
	for _, s := range []api.Shape{circle(2048), square(900)} {
		for _, x := range []meeting{{circle(2048), at(0, 0), s, at(2000, 50)}, {circle(2048), at(0, 0), s, at(9999, 50)}} {
			want, ok := x.collide()
			expectContact(t, meeting{empty, x.pa, s, x.pb}, want, ok)
			expectAxes(t, meeting{empty, x.pa, s, x.pb}, x.axes())
			want, ok = x.exchanged().collide()
			expectContact(t, meeting{s, x.pb, empty, x.pa}, want, ok)
			expectAxes(t, meeting{s, x.pb, empty, x.pa}, x.exchanged().axes())
		}
	}
}

// TestOutsideTheDomain holds the calls to no result: they only have to end without a panic.
func TestOutsideTheDomain(t *testing.T) {
	wild := []int{math.MinInt, math.MinInt + 1, -1 << 32, -far - 1, 0, 1, far + 1, 1 << 31, 1 << 32, 3 << 31, math.MaxInt}
	l := []api.Shape{{}, {Radius: -1}, {Radius: math.MinInt}, {Radius: math.MaxInt}, {Radius: 3, Poly: []api.Vec{{X: 1}}}, poly(1, 2), poly(1, 2, 3, 4), {Poly: make([]api.Vec, 7)}, {Poly: make([]api.Vec, 1000)}, circle(5), square(2)}
	for _, n := range wild {
		l = append(l, poly(n, -n, n, n, -n, n), poly(n, n), poly(0, n, n, 1))
	}
	for _, a := range l {
		for _, b := range l {
			for _, x := range wild {
				for _, m := range []meeting{{a, at(x, 0), b, at(0, 3)}, {a, at(x, x), b, at(-x, x)}, {a, at(1, 2), b, at(x, -x)}} {
					m.axes()
					m.collide()
				}
			}
		}
	}
}
