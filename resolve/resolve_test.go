package resolve_test

import (
	"math"
	"math/big"
	"math/rand"
	"testing"

	"arenanet/api"
	"arenanet/resolve"
)

// far, fast and light are the largest absolute values of positions' and velocities' components, and the largest InvMass.
const (
	far   = api.MaxCoord
	fast  = api.MaxSpeed
	light = 4 * api.One
)

func at(x, y int) api.Vec { return api.Vec{X: x, Y: y} }

// motion returns a motion with this position, velocity and InvMass.
func motion(x, y, vx, vy, invMass int) api.Motion {
	return api.Motion{Pos: at(x, y), Vel: at(vx, vy), InvMass: invMass}
}

// touch returns a contact with this normal and depth.
func touch(x, y, depth int) api.Contact { return api.Contact{Normal: at(x, y), Depth: depth} }

// meeting is what Resolve is given.
type meeting struct {
	a, b        api.Motion
	c           api.Contact
	restitution int
}

func (m meeting) resolve() (api.Motion, api.Motion) {
	return resolve.Resolve(m.a, m.b, m.c, m.restitution)
}

// outcome is a meeting and what Resolve shall answer.
type outcome struct {
	meeting
	a, b api.Motion
}

func expectAll(t *testing.T, list []outcome) {
	t.Helper()
	for i, x := range list {
		if a, b := x.resolve(); a != x.a || b != x.b {
			t.Errorf("%d: Resolve%v = %v, %v, want %v, %v", i, x.meeting, a, b, x.a, x.b)
		}
	}
}

// floor returns n / d rounded toward negative infinity, for a positive d, by unbounded arithmetic.
func floor(n, d int) int {
	return int(new(big.Int).Div(big.NewInt(int64(n)), big.NewInt(int64(d))).Int64())
}

// closing returns the relative velocity along the normal.
func (m meeting) closing() int {
	return floor((m.b.Vel.X-m.a.Vel.X)*m.c.Normal.X+(m.b.Vel.Y-m.a.Vel.Y)*m.c.Normal.Y, api.One)
}

// changes returns by how much each body's velocity changes, reckoned number by number.
func (m meeting) changes() (a, b api.Vec) {
	total, speed := m.a.InvMass+m.b.InvMass, m.closing()
	if total == 0 || speed >= 0 {
		return
	}
	impulse := floor(-speed*(api.One+m.restitution), total)
	ofA, ofB := floor(impulse*m.a.InvMass, api.One), floor(impulse*m.b.InvMass, api.One)
	return at(-floor(m.c.Normal.X*ofA, api.One), -floor(m.c.Normal.Y*ofA, api.One)), at(floor(m.c.Normal.X*ofB, api.One), floor(m.c.Normal.Y*ofB, api.One))
}

// moves returns by how much each body's position changes, reckoned number by number.
func (m meeting) moves() (a, b api.Vec) {
	total := m.a.InvMass + m.b.InvMass
	if total == 0 {
		return
	}
	ofA, ofB := floor(m.c.Depth*m.a.InvMass, total), floor(m.c.Depth*m.b.InvMass, total)
	return at(-floor(m.c.Normal.X*ofA, api.One), -floor(m.c.Normal.Y*ofA, api.One)), at(floor(m.c.Normal.X*ofB, api.One), floor(m.c.Normal.Y*ofB, api.One))
}

// plus returns the sum of two vectors.
func plus(v, w api.Vec) api.Vec { return at(v.X+w.X, v.Y+w.Y) }

// within returns the vector with components of absolute value at most n.
func within(v api.Vec, n int) api.Vec { return at(min(max(v.X, -n), n), min(max(v.Y, -n), n)) }

// size returns the greater absolute value of the components.
func size(v api.Vec) int { return max(v.X, -v.X, v.Y, -v.Y) }

// normals returns unit normals in many directions, rounded as they come from contacts, and shorter and longer ones.
func normals() []api.Vec {
	l := []api.Vec{at(1024, 0), at(0, 1024), at(-1024, 0), at(0, -1024)}
	for _, v := range []api.Vec{at(614, 819), at(724, 724), at(1023, 1), at(1000, 220), at(0, 0), at(1, 0), at(1024, 1024), at(512, 3)} {
		l = append(l, v, at(-v.X, v.Y), at(v.X, -v.Y), at(-v.X, -v.Y), at(v.Y, v.X), at(-v.Y, v.X))
	}
	return l
}

// invMasses returns pairs of InvMass of all sizes, with the least and the greatest.
func invMasses() [][2]int {
	l := [][2]int{}
	for _, n := range []int{0, 1, 2, 511, 1023, 1024, 1025, 3000, light} {
		for _, k := range []int{0, 1, 3, 1000, 1024, 2048, light - 1, light} {
			l = append(l, [2]int{n, k})
		}
	}
	return l
}

// meetings calls visit with meetings of all kinds, the same in every run: slow and fast bodies, in the middle of the world and
// at its ends.
func meetings(visit func(m meeting)) {
	r := rand.New(rand.NewSource(7))
	around := func(n int) api.Vec { return at(r.Intn(2*n+1)-n, r.Intn(2*n+1)-n) }
	for _, normal := range normals() {
		for _, inv := range invMasses() {
			for i := range 30 {
				space, speed := []int{0, 5000, far}[i%3], []int{0, 3, 700, fast}[i%4]
				m := meeting{c: api.Contact{Normal: normal}}
				m.a = api.Motion{Pos: around(space), Vel: around(speed), InvMass: inv[0]}
				m.b = api.Motion{Pos: around(space), Vel: around([]int{speed, 0, 50}[i%3]), InvMass: inv[1]}
				m.c.Depth = []int{0, 1, r.Intn(20), r.Intn(4000), far}[i%5]
				m.restitution = []int{0, 1, 512, r.Intn(1025), 1023, 1024}[i%6]
				visit(m)
			}
		}
	}
	visit(meeting{motion(far, -far, fast, fast, light), motion(-far, far, -fast, -fast, light), touch(1024, 1024, far), 1024})
	visit(meeting{motion(-far, far, fast, fast, 1), motion(far, far, -fast, -fast, 0), touch(1024, 1024, far), 1024})
	visit(meeting{motion(0, 0, fast, fast, 1), motion(0, 0, -fast, -fast, light), touch(1024, 1024, far), 1024})
}

func TestChapterExample(t *testing.T) {
	expectAll(t, []outcome{
		{meeting{motion(0, 0, 100, 0, 1024), motion(20, 0, -100, 0, 1024), touch(1024, 0, 10), 1024}, motion(-5, 0, -100, 0, 1024), motion(25, 0, 100, 0, 1024)},
		// The second of the document's examples of the whole.
		{meeting{motion(0, 0, 600, 0, 1024), motion(1900, 0, 0, 0, 1024), touch(1024, 0, 100), 1024}, motion(-50, 0, 0, 0, 1024), motion(1950, 0, 600, 0, 1024)},
	})
}

func TestP7_1_NoMass(t *testing.T) {
	l := []outcome{}
	for _, c := range []api.Contact{touch(1024, 0, 9), touch(-1024, 0, 9), touch(614, 819, far), touch(0, 0, 0)} {
		for _, restitution := range []int{0, 512, 1024} {
			for _, m := range []api.Motion{motion(1, 2, 300, -4, 0), motion(0, 0, 0, 0, 0), motion(far, -far, fast, -fast, 0)} {
				for _, n := range []api.Motion{motion(5, 6, -300, 4, 0), motion(-far, far, -fast, fast, 0)} {
					l = append(l, outcome{meeting{m, n, c, restitution}, m, n})
				}
			}
		}
	}
	expectAll(t, l)
}

func TestP7_2_Velocities(t *testing.T) {
	right, left := touch(1024, 0, 0), touch(-1024, 0, 0)
	expectAll(t, []outcome{
		// The impulse, its parts and the products with the normal are rounded down one by one: 1 * 1024 / 3 = 341, 341 * 1 / 1024 = 0, 341 * 2 / 1024 = 0.
		{meeting{motion(0, 0, 1, 0, 1), motion(0, 0, 0, 0, 2), right, 0}, motion(0, 0, 1, 0, 1), motion(0, 0, 0, 0, 2)},
		// 7 * 1024 / 2048 = 3: each gets 3 of the 7.
		{meeting{motion(0, 0, 7, 0, 1024), motion(0, 0, 0, 0, 1024), right, 0}, motion(0, 0, 4, 0, 1024), motion(0, 0, 3, 0, 1024)},
		{meeting{motion(0, 0, -7, 0, 1024), motion(0, 0, 0, 0, 1024), left, 0}, motion(0, 0, -4, 0, 1024), motion(0, 0, -3, 0, 1024)},
		// 100 * 1536 / 4096 = 37, 37 * 1 = 37, 37 * 3 = 111.
		{meeting{motion(0, 0, 0, 0, 1024), motion(0, 0, -100, 0, 3072), right, 512}, motion(0, 0, -37, 0, 1024), motion(0, 0, 11, 0, 3072)},
		// Oblique, with negative components: -614 * 600 / 1024 = -359.76 becomes -360, and 819 * 600 / 1024 = 479.
		{meeting{motion(0, 0, -1000, 0, 1024), motion(0, 0, 0, 0, 0), touch(-614, 819, 0), 0}, motion(0, 0, -640, -479, 1024), motion(0, 0, 0, 0, 0)},
		{meeting{motion(0, 0, 0, 0, 0), motion(0, 0, 1000, 0, 1024), touch(-614, 819, 0), 0}, motion(0, 0, 0, 0, 0), motion(0, 0, 640, 479, 1024)},
		// The least approach: -1 / 1024 is rounded to -1.
		{meeting{motion(0, 0, 0, 0, 0), motion(0, 0, -1, 0, 1024), touch(1, 1024, 0), 1024}, motion(0, 0, 0, 0, 0), motion(0, 0, -1, 2, 1024)},
		// At rest against each other, and going apart by one: no impulse.
		{meeting{motion(0, 0, 5, 0, 1024), motion(0, 0, 5, 9, 1024), right, 1024}, motion(0, 0, 5, 0, 1024), motion(0, 0, 5, 9, 1024)},
		{meeting{motion(0, 0, 5, 0, 1024), motion(0, 0, 6, 0, 1024), right, 1024}, motion(0, 0, 5, 0, 1024), motion(0, 0, 6, 0, 1024)},
		{meeting{motion(0, 0, 6, 0, 1024), motion(0, 0, 5, 0, 1024), left, 1024}, motion(0, 0, 6, 0, 1024), motion(0, 0, 5, 0, 1024)},
	})
	approach := 0
	meetings(func(m meeting) {
		a, b := m.resolve()
		byA, byB := m.changes()
		if a.Vel != within(plus(m.a.Vel, byA), fast) || b.Vel != within(plus(m.b.Vel, byB), fast) {
			t.Errorf("Resolve%v = %v, %v, want changes %v, %v", m, a, b, byA, byB)
		}
		if byA != (api.Vec{}) && byB != (api.Vec{}) {
			approach++
		}
	})
	if approach < 10000 {
		t.Errorf("only %d approach", approach)
	}
}

func TestP7_3_Positions(t *testing.T) {
	expectAll(t, []outcome{
		// Going apart or at rest, they are still pushed apart; by whose share, the InvMass tells.
		{meeting{motion(0, 0, -5, 0, 1024), motion(0, 0, 5, 0, 1024), touch(1024, 0, 11), 1024}, motion(-5, 0, -5, 0, 1024), motion(5, 0, 5, 0, 1024)},
		{meeting{motion(10, 0, 0, 0, 1), motion(20, 0, 0, 0, 2), touch(1024, 0, 100), 0}, motion(-23, 0, 0, 0, 1), motion(86, 0, 0, 0, 2)},
		{meeting{motion(0, 10, 0, 0, 0), motion(0, 20, 0, 0, 3), touch(0, -1024, 100), 0}, motion(0, 10, 0, 0, 0), motion(0, -80, 0, 0, 3)},
		// The share is rounded down before it meets the normal: 5 * 1/2 = 2; a negative product is rounded down too.
		{meeting{motion(0, 0, 0, 0, 1024), motion(0, 0, 0, 0, 1024), touch(614, -819, 5), 0}, motion(-1, 2, 0, 0, 1024), motion(1, -2, 0, 0, 1024)},
		{meeting{motion(0, 0, 0, 0, 1024), motion(0, 0, 0, 0, 1024), touch(-614, 819, 200), 0}, motion(60, -79, 0, 0, 1024), motion(-60, 79, 0, 0, 1024)},
		// After an impulse the positions change as much as without.
		{meeting{motion(0, 0, 100, 0, 1024), motion(0, 0, 0, 0, 1024), touch(1024, 0, 10), 0}, motion(-5, 0, 50, 0, 1024), motion(5, 0, 50, 0, 1024)},
		{meeting{motion(0, 0, 0, 0, 1024), motion(0, 0, 0, 0, 1024), touch(1024, 0, 1), 0}, motion(0, 0, 0, 0, 1024), motion(0, 0, 0, 0, 1024)},
		{meeting{motion(-far, 0, 0, 0, 0), motion(0, 0, 0, 0, 1), touch(1024, 0, far), 0}, motion(-far, 0, 0, 0, 0), motion(far, 0, 0, 0, 1)},
	})
	count := 0
	meetings(func(m meeting) {
		a, b := m.resolve()
		byA, byB := m.moves()
		if a.Pos != within(plus(m.a.Pos, byA), far) || b.Pos != within(plus(m.b.Pos, byB), far) {
			t.Errorf("Resolve%v = %v, %v, want moves %v, %v", m, a, b, byA, byB)
		}
		if byA != (api.Vec{}) && byB != (api.Vec{}) {
			count++
		}
	})
	if count < 10000 {
		t.Errorf("only %d move", count)
	}
}

func TestP7_4_Clamped(t *testing.T) {
	expectAll(t, []outcome{
		{meeting{motion(-far, 0, 0, 0, 1024), motion(far-1, 7, 0, 0, 1024), touch(1024, 0, 9), 0}, motion(-far, 0, 0, 0, 1024), motion(far, 7, 0, 0, 1024)},
		{meeting{motion(0, far-3, 0, 0, 1024), motion(0, 2-far, 0, 0, 1024), touch(0, -1024, 8), 0}, motion(0, far, 0, 0, 1024), motion(0, -far, 0, 0, 1024)},
		{meeting{motion(far-4, 0, 0, 0, 1024), motion(4-far, 0, 0, 0, 1024), touch(-1024, 0, 8), 0}, motion(far, 0, 0, 0, 1024), motion(-far, 0, 0, 0, 1024)},
		{meeting{motion(0, 1-far, 0, 0, 1024), motion(0, far-1, 0, 0, 1024), touch(0, 1024, 8), 0}, motion(0, -far, 0, 0, 1024), motion(0, far, 0, 0, 1024)},
		// vn = -16385, j = 16385 * 2 / 5 = 6554: 4 * 6554 are too much for the light one, 6554 are not for the other.
		{meeting{motion(0, 0, 1, 5, 4096), motion(0, 0, -fast, -5, 1024), touch(1024, 0, 0), 1024}, motion(0, 0, -fast, 5, 4096), motion(0, 0, 6554-fast, -5, 1024)},
		{meeting{motion(0, 0, 0, fast, 1024), motion(0, 0, 0, -1, 4096), touch(0, 1024, 0), 1024}, motion(0, 0, 0, fast-6554, 1024), motion(0, 0, 0, fast, 4096)},
		{meeting{motion(0, 0, -fast, 0, 0), motion(0, 0, fast, 0, 1024), touch(-1024, 0, 0), 1024}, motion(0, 0, -fast, 0, 0), motion(0, 0, -fast, 0, 1024)},
		{meeting{motion(0, 0, 0, -fast, 1024), motion(0, 0, 0, fast, 0), touch(0, -1024, 0), 1024}, motion(0, 0, 0, fast, 1024), motion(0, 0, 0, fast, 0)},
	})
	clamped := map[string]int{}
	meetings(func(m meeting) {
		a, b := m.resolve()
		if max(size(a.Pos), size(b.Pos)) > far || max(size(a.Vel), size(b.Vel)) > fast {
			t.Errorf("Resolve%v = %v, %v: beyond the limits", m, a, b)
		}
		if a.InvMass != m.a.InvMass || b.InvMass != m.b.InvMass {
			t.Errorf("Resolve%v = %v, %v: other InvMass", m, a, b)
		}
		moveA, moveB := m.moves()
		changeA, changeB := m.changes()
		for name, over := range map[string]bool{
			"first's position": size(plus(m.a.Pos, moveA)) > far, "second's position": size(plus(m.b.Pos, moveB)) > far,
			"first's velocity": size(plus(m.a.Vel, changeA)) > fast, "second's velocity": size(plus(m.b.Vel, changeB)) > fast,
		} {
			if over {
				clamped[name]++
			}
		}
	})
	for _, name := range []string{"first's position", "second's position", "first's velocity", "second's velocity"} {
		if clamped[name] < 500 {
			t.Errorf("few clamped: %v", clamped)
		}
	}
}

func TestP7_5_Immovable(t *testing.T) {
	count := 0
	meetings(func(m meeting) {
		a, b := m.resolve()
		if m.a.InvMass == 0 && a != m.a || m.b.InvMass == 0 && b != m.b {
			t.Errorf("Resolve%v = %v, %v", m, a, b)
		}
		if m.a.InvMass+m.b.InvMass > 0 && m.a.InvMass*m.b.InvMass == 0 && m.closing() < 0 && m.c.Depth > 0 {
			count++
		}
	})
	if count < 1000 {
		t.Errorf("only %d tried", count)
	}
}

func TestP7_5_Separating(t *testing.T) {
	count := 0
	meetings(func(m meeting) {
		// Not m.closing(): what is less than zero before it is rounded is so afterwards, and the other way round.
		if (m.b.Vel.X-m.a.Vel.X)*m.c.Normal.X+(m.b.Vel.Y-m.a.Vel.Y)*m.c.Normal.Y < 0 {
			return
		}
		count++
		if a, b := m.resolve(); a.Vel != m.a.Vel || b.Vel != m.b.Vel {
			t.Errorf("Resolve%v = %v, %v", m, a, b)
		}
	})
	if count < 10000 {
		t.Errorf("only %d tried", count)
	}
}

func TestP7_5_WithoutPenetration(t *testing.T) {
	meetings(func(m meeting) {
		m.c.Depth = 0
		if a, b := m.resolve(); a.Pos != m.a.Pos || b.Pos != m.b.Pos {
			t.Errorf("Resolve%v = %v, %v", m, a, b)
		}
	})
}

// along returns a vector's component in the direction of a normal along a coordinate axis, and the one across.
func along(v, normal api.Vec) (int, int) {
	if normal.X != 0 {
		return v.X * normal.X / api.One, v.Y
	}
	return v.Y * normal.Y / api.One, v.X
}

func TestP7_6_AxisNormals(t *testing.T) {
	count := 0
	meetings(func(m meeting) {
		total := m.a.InvMass + m.b.InvMass
		for _, normal := range []api.Vec{at(1024, 0), at(-1024, 0), at(0, 1024), at(0, -1024)} {
			m.c.Normal = normal
			a, b := m.resolve()
			fromA, acrossA := along(m.a.Vel, normal)
			fromB, acrossB := along(m.b.Vel, normal)
			toA, stillA := along(a.Vel, normal)
			toB, stillB := along(b.Vel, normal)
			if acrossA != stillA || acrossB != stillB {
				t.Errorf("Resolve%v = %v, %v: changed across the normal", m, a, b)
			}
			before, after := fromB-fromA, toB-toA
			changeA, changeB := m.changes()
			if total == 0 || before >= 0 || max(size(plus(m.a.Vel, changeA)), size(plus(m.b.Vel, changeB))) > fast {
				continue
			}
			count++
			kept := -before * m.restitution
			if after*api.One > kept || after*api.One <= kept-total-2*api.One {
				t.Errorf("Resolve%v = %v, %v: from %d to %d", m, a, b, before, after)
			}
		}
	})
	if count < 10000 {
		t.Errorf("only %d tried", count)
	}
}

func TestP7_7_Moved(t *testing.T) {
	count := 0
	meetings(func(m meeting) {
		byA, byB := m.moves()
		a, b := m.resolve()
		for _, by := range []api.Vec{at(1, 0), at(0, -1), at(-700, 500), at(40000, 3), at(-far, far)} {
			n := m
			n.a.Pos, n.b.Pos = plus(m.a.Pos, by), plus(m.b.Pos, by)
			if max(size(n.a.Pos), size(n.b.Pos)) > far || max(size(plus(m.a.Pos, byA)), size(plus(m.b.Pos, byB)), size(plus(n.a.Pos, byA)), size(plus(n.b.Pos, byB))) > far {
				continue
			}
			count++
			movedA, movedB := n.resolve()
			if movedA.Pos != plus(a.Pos, by) || movedB.Pos != plus(b.Pos, by) || movedA.Vel != a.Vel || movedB.Vel != b.Vel {
				t.Errorf("Resolve%v = %v, %v, not moved %v, %v", n, movedA, movedB, a, b)
			}
		}
	})
	if count < 10000 {
		t.Errorf("only %d tried", count)
	}
}

func TestP7_7_VelocitiesAnywhere(t *testing.T) {
	meetings(func(m meeting) {
		a, b := m.resolve()
		for _, x := range [][2]api.Vec{{at(0, 0), at(0, 0)}, {at(far, -far), at(-far, far)}, {m.b.Pos, m.a.Pos}} {
			n := m
			n.a.Pos, n.b.Pos = x[0], x[1]
			if otherA, otherB := n.resolve(); otherA.Vel != a.Vel || otherB.Vel != b.Vel {
				t.Errorf("Resolve%v = %v, %v, elsewhere %v, %v", m, a, b, otherA, otherB)
			}
		}
	})
}

// TestOutsideTheDomain holds the call to no result: it only has to end without a panic.
func TestOutsideTheDomain(t *testing.T) {
	wild := []int{math.MinInt, math.MinInt + 1, -1 << 32, -far - 1, -1025, -1, 0, 1, 1024, far + 1, 1 << 31, math.MaxInt}
	for _, n := range wild {
		for _, k := range wild {
			for _, invMass := range wild {
				for _, c := range []api.Contact{touch(n, k, k), touch(1024, 0, n), touch(k, 1024, -5)} {
					resolve.Resolve(motion(n, k, k, n, invMass), motion(k, n, n, -k, k), c, n)
					resolve.Resolve(motion(0, 0, k, n, invMass), motion(k, k, -k, -n, -1-invMass), c, k)
				}
			}
		}
	}
}
