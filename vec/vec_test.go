package vec_test

import (
	"math"
	"math/big"
	"math/rand"
	"testing"

	"arenanet/api"
	"arenanet/fixed"
	"arenanet/vec"
)

// most is the largest absolute value that a component, f, n and d may have.
const most = 1 << 24

// numbers returns components, factors and divisors of both signs, with the largest allowed ones.
func numbers() []int {
	l := []int{0}
	for _, n := range []int{1, 2, 3, 7, 341, 512, 1023, 1024, 1025, 3000, 65537, api.MaxCoord, most - 1, most} {
		l = append(l, n, -n)
	}
	return l
}

// vectors returns vectors of all those components, and some between them that are the same in every run.
func vectors() []api.Vec {
	l := []api.Vec{}
	for _, x := range numbers() {
		for _, y := range numbers() {
			l = append(l, api.Vec{X: x, Y: y})
		}
	}
	r := rand.New(rand.NewSource(2))
	for size := 8; size <= most; size *= 4 {
		for range 8 {
			l = append(l, api.Vec{X: r.Intn(2*size+1) - size, Y: r.Intn(2*size+1) - size})
		}
	}
	return l
}

// few returns every seventh of the vectors, for the promises about three of them, and the greatest.
func few() []api.Vec {
	l := []api.Vec{{X: most, Y: most}, {X: -most, Y: most}, {X: -most, Y: -most}}
	for i, v := range vectors() {
		if i%7 == 0 {
			l = append(l, v)
		}
	}
	return l
}

// isFloor reports whether q is n / d rounded toward negative infinity, for a d other than 0.
func isFloor(q, n, d int) bool {
	if d < 0 {
		n, d = -n, -d
	}
	return q*d <= n && n-q*d < d
}

// isRoot reports whether r is the largest number with r * r <= n, by unbounded arithmetic.
func isRoot(r int, n *big.Int) bool {
	square := func(k int) *big.Int { return new(big.Int).Mul(big.NewInt(int64(k)), big.NewInt(int64(k))) }
	return r >= 0 && square(r).Cmp(n) <= 0 && square(r+1).Cmp(n) > 0
}

// sumOfSquares returns a.X * a.X + a.Y * a.Y by unbounded arithmetic.
func sumOfSquares(a api.Vec) *big.Int {
	x, y := big.NewInt(int64(a.X)), big.NewInt(int64(a.Y))
	return x.Add(x.Mul(x, x), y.Mul(y, y))
}

func TestP2_1_Examples(t *testing.T) {
	a, b := api.Vec{X: 3072, Y: -2048}, api.Vec{X: -1024, Y: 5}
	top, bottom := api.Vec{X: most, Y: -most}, api.Vec{X: -most, Y: most}
	for i, x := range [][2]api.Vec{
		{vec.Add(a, b), {X: 2048, Y: -2043}}, {vec.Add(top, top), {X: 1 << 25, Y: -1 << 25}}, {vec.Add(top, bottom), {}}, {vec.Add(a, api.Vec{}), a},
		{vec.Sub(a, b), {X: 4096, Y: -2053}}, {vec.Sub(top, bottom), {X: 1 << 25, Y: -1 << 25}}, {vec.Sub(bottom, top), {X: -1 << 25, Y: 1 << 25}}, {vec.Sub(a, a), {}},
		{vec.Neg(a), {X: -3072, Y: 2048}}, {vec.Neg(top), bottom}, {vec.Neg(api.Vec{}), {}},
		{vec.Scale(a, 512), {X: 1536, Y: -1024}}, {vec.Scale(b, 512), {X: -512, Y: 2}}, {vec.Scale(b, -512), {X: 512, Y: -3}}, {vec.Scale(a, 0), {}}, {vec.Scale(a, 1024), a},
		{vec.Scale(top, most), {X: 1 << 38, Y: -1 << 38}}, {vec.Scale(top, -most), {X: -1 << 38, Y: 1 << 38}}, {vec.Scale(api.Vec{X: 1, Y: -1}, 1), {X: 0, Y: -1}},
		{vec.MulDiv(a, 1, 3), {X: 1024, Y: -683}}, {vec.MulDiv(a, -1, 3), {X: -1024, Y: 682}}, {vec.MulDiv(a, 1, -3), {X: -1024, Y: 682}}, {vec.MulDiv(a, -1, -3), {X: 1024, Y: -683}},
		{vec.MulDiv(api.Vec{X: 5, Y: -7}, 3, 2), {X: 7, Y: -11}}, {vec.MulDiv(a, 0, 5), {}}, {vec.MulDiv(a, 7, 0), {}}, {vec.MulDiv(top, -most, 0), {}},
		{vec.MulDiv(top, most, most), top}, {vec.MulDiv(top, most, 1), {X: 1 << 48, Y: -1 << 48}}, {vec.MulDiv(top, most, -1), {X: -1 << 48, Y: 1 << 48}}, {vec.MulDiv(api.Vec{X: 1, Y: -1}, 1, most), {X: 0, Y: -1}},
		{vec.Perp(a), {X: 2048, Y: 3072}}, {vec.Perp(api.Vec{X: 1}), {Y: 1}}, {vec.Perp(api.Vec{Y: 1}), {X: -1}}, {vec.Perp(top), {X: most, Y: most}}, {vec.Perp(api.Vec{}), {}},
	} {
		if x[0] != x[1] {
			t.Errorf("%d: %v, want %v", i, x[0], x[1])
		}
	}
}

func TestP2_1_Components(t *testing.T) {
	for _, a := range vectors() {
		if got, want := vec.Neg(a), (api.Vec{X: -a.X, Y: -a.Y}); got != want {
			t.Errorf("Neg(%v) = %v", a, got)
		}
		if got, want := vec.Perp(a), (api.Vec{X: -a.Y, Y: a.X}); got != want {
			t.Errorf("Perp(%v) = %v", a, got)
		}
		for _, b := range vectors() {
			if got, want := vec.Add(a, b), (api.Vec{X: a.X + b.X, Y: a.Y + b.Y}); got != want {
				t.Errorf("Add(%v, %v) = %v", a, b, got)
			}
			if got, want := vec.Sub(a, b), (api.Vec{X: a.X - b.X, Y: a.Y - b.Y}); got != want {
				t.Errorf("Sub(%v, %v) = %v", a, b, got)
			}
		}
	}
}

func TestP2_1_Quotients(t *testing.T) {
	for _, a := range vectors() {
		for _, n := range numbers() {
			got := vec.Scale(a, n)
			if !isFloor(got.X, a.X*n, api.One) || !isFloor(got.Y, a.Y*n, api.One) || got != (api.Vec{X: fixed.Mul(a.X, n), Y: fixed.Mul(a.Y, n)}) {
				t.Errorf("Scale(%v, %d) = %v", a, n, got)
			}
			for _, d := range numbers() {
				got = vec.MulDiv(a, n, d)
				if d != 0 && (!isFloor(got.X, a.X*n, d) || !isFloor(got.Y, a.Y*n, d)) || got != (api.Vec{X: fixed.MulDiv(a.X, n, d), Y: fixed.MulDiv(a.Y, n, d)}) {
					t.Errorf("MulDiv(%v, %d, %d) = %v", a, n, d, got)
				}
			}
		}
	}
}

func TestP2_1_DivisorZero(t *testing.T) {
	for _, a := range vectors() {
		for _, n := range numbers() {
			if got := vec.MulDiv(a, n, 0); got != (api.Vec{}) {
				t.Errorf("MulDiv(%v, %d, 0) = %v", a, n, got)
			}
		}
	}
}

func TestP2_2_Examples(t *testing.T) {
	v := func(x, y int) api.Vec { return api.Vec{X: x, Y: y} }
	for i, x := range [][2]int{
		{vec.Dot(v(1024, 2048), v(1024, 0)), 1024}, {vec.Dot(v(3072, -2048), v(-1024, 5)), -3082}, {vec.Dot(v(1, 0), v(1, 0)), 0}, {vec.Dot(v(1, 0), v(-1, 0)), -1}, {vec.Dot(v(0, 0), v(-7, 7)), 0},
		{vec.Cross(v(3072, -2048), v(-1024, 5)), -2033}, {vec.Cross(v(1, 0), v(0, -1)), -1}, {vec.Cross(v(1, 0), v(0, 1)), 0}, {vec.Cross(v(1024, 0), v(0, 1024)), 1024}, {vec.Cross(v(0, 1024), v(1024, 0)), -1024},
		// Rounding each product by itself would give 0, -2, 0 and 1 here.
		{vec.Dot(v(512, 512), v(1, 1)), 1}, {vec.Dot(v(-512, -512), v(1, 1)), -1}, {vec.Cross(v(512, 1000), v(1, 1)), -1}, {vec.Cross(v(1030, 512), v(1, 1)), 0},
		{vec.Dot(v(most, most), v(most, most)), 1 << 39}, {vec.Dot(v(most, most), v(-most, -most)), -1 << 39}, {vec.Dot(v(most, -most), v(most, most)), 0},
		{vec.Cross(v(most, -most), v(most, most)), 1 << 39}, {vec.Cross(v(most, most), v(most, -most)), -1 << 39}, {vec.Cross(v(most, most), v(most, most)), 0},
		{vec.Dot(v(most-1, 1), v(-1, -1)), -1 << 14}, {vec.Dot(v(most, 1), v(-1, -1)), -1<<14 - 1},
	} {
		if x[0] != x[1] {
			t.Errorf("%d: %d, want %d", i, x[0], x[1])
		}
	}
}

func TestP2_2_RoundedOnce(t *testing.T) {
	for _, a := range vectors() {
		for _, b := range vectors() {
			if got := vec.Dot(a, b); !isFloor(got, a.X*b.X+a.Y*b.Y, api.One) {
				t.Errorf("Dot(%v, %v) = %d", a, b, got)
			}
			if got := vec.Cross(a, b); !isFloor(got, a.X*b.Y-a.Y*b.X, api.One) {
				t.Errorf("Cross(%v, %v) = %d", a, b, got)
			}
		}
	}
}

func TestP2_3_Len(t *testing.T) {
	for _, x := range [][3]int{{0, 0, 0}, {3, 4, 5}, {1, 1, 1}, {-5, 12, 13}, {0, -9, 9}, {-most, 0, most}, {most, most, 23726566}, {most, -most, 23726566}, {2, 2, 2}, {-2, -3, 3}, {most, 1, most}} {
		if got := vec.Len(api.Vec{X: x[0], Y: x[1]}); got != x[2] {
			t.Errorf("Len(%d, %d) = %d, want %d", x[0], x[1], got, x[2])
		}
	}
	for _, a := range vectors() {
		if got := vec.Len(a); !isRoot(got, sumOfSquares(a)) || got != fixed.Isqrt(a.X*a.X+a.Y*a.Y) {
			t.Errorf("Len(%v) = %d", a, got)
		}
	}
}

func TestP2_3_NormalizeExamples(t *testing.T) {
	for _, x := range [][4]int{
		{3072, 4096, 614, 819}, {3000, -4000, 614, -820}, {-3000, -4000, -615, -820}, {0, 0, 0, 0},
		{-7, 0, -1024, 0}, {7, 0, 1024, 0}, {0, 7, 0, 1024}, {0, -7, 0, -1024}, {0, 1, 0, 1024}, {-1, 0, -1024, 0},
		{1, 1, 1024, 1024}, {-1, 1, -1024, 1024}, {1, -2, 512, -1024}, {2, 2, 1024, 1024}, {-2, -3, -683, -1024}, {-700, 700, -725, 724},
		{most, 0, 1024, 0}, {0, -most, 0, -1024}, {most, most, 724, 724}, {-most, -most, -725, -725}, {most, 1, 1024, 0}, {most, -1, 1024, -1},
	} {
		a, want := api.Vec{X: x[0], Y: x[1]}, api.Vec{X: x[2], Y: x[3]}
		if got := vec.Normalize(a); got != want {
			t.Errorf("Normalize(%v) = %v, want %v", a, got, want)
		}
	}
}

func TestP2_3_NormalizeFloors(t *testing.T) {
	for _, a := range vectors() {
		got, length := vec.Normalize(a), vec.Len(a)
		if a == (api.Vec{}) {
			if got != a {
				t.Errorf("Normalize(%v) = %v", a, got)
			}
			continue
		}
		if !isFloor(got.X, a.X*api.One, length) || !isFloor(got.Y, a.Y*api.One, length) {
			t.Errorf("Normalize(%v) = %v", a, got)
		}
	}
}

func TestP2_4_Group(t *testing.T) {
	zero := api.Vec{}
	for _, a := range few() {
		if vec.Add(a, zero) != a || vec.Add(zero, a) != a || vec.Add(a, vec.Neg(a)) != zero || vec.Sub(a, a) != zero || vec.Neg(vec.Neg(a)) != a {
			t.Errorf("zero or negative of %v", a)
		}
		for _, b := range few() {
			if vec.Add(a, b) != vec.Add(b, a) || vec.Sub(a, b) != vec.Add(a, vec.Neg(b)) {
				t.Errorf("Add or Sub of %v and %v", a, b)
			}
			for _, c := range few() {
				if vec.Add(vec.Add(a, b), c) != vec.Add(a, vec.Add(b, c)) {
					t.Errorf("Add of %v, %v and %v", a, b, c)
				}
			}
		}
	}
}

func TestP2_4_Products(t *testing.T) {
	for _, a := range vectors() {
		if vec.Perp(vec.Perp(a)) != vec.Neg(a) {
			t.Errorf("Perp of Perp(%v) = %v", a, vec.Perp(vec.Perp(a)))
		}
		if got := vec.Dot(a, vec.Perp(a)); got != 0 {
			t.Errorf("Dot(%v, Perp) = %d", a, got)
		}
		for _, b := range vectors() {
			if vec.Dot(a, b) != vec.Dot(b, a) {
				t.Errorf("Dot(%v, %v) = %d, the other way %d", a, b, vec.Dot(a, b), vec.Dot(b, a))
			}
			if vec.Cross(a, b) != vec.Dot(vec.Perp(a), b) {
				t.Errorf("Cross(%v, %v) = %d, Dot of the Perp %d", a, b, vec.Cross(a, b), vec.Dot(vec.Perp(a), b))
			}
		}
	}
}

func TestP2_5_Inequalities(t *testing.T) {
	for _, a := range vectors() {
		for _, b := range vectors() {
			la, lb := vec.Len(a), vec.Len(b)
			if got := vec.Dot(a, b); fixed.Abs(got)*api.One > (la+1)*(lb+1)+api.One {
				t.Errorf("Dot(%v, %v) = %d", a, b, got)
			}
			if got := vec.Len(vec.Add(a, b)); got > la+lb+1 {
				t.Errorf("Len(Add(%v, %v)) = %d", a, b, got)
			}
		}
	}
}

// offUnit returns how much the length of Normalize(a) differs from One.
func offUnit(a api.Vec) int { return fixed.Abs(vec.Len(vec.Normalize(a)) - api.One) }

func TestP2_5_UnitLength(t *testing.T) {
	for _, a := range vectors() {
		if vec.Len(a) >= api.One && offUnit(a) > 2 {
			t.Errorf("Normalize(%v) = %v is off by %d", a, vec.Normalize(a), offUnit(a))
		}
	}
	// The shortest of them, all around the circle: there the rounding of the length weighs most.
	for x := -1100; x <= 1100; x++ {
		for y := -1100; y <= 1100; y++ {
			a := api.Vec{X: x, Y: y}
			if length := vec.Len(a); length >= api.One && length <= api.One+8 && offUnit(a) > 2 {
				t.Fatalf("Normalize(%v) = %v is off by %d", a, vec.Normalize(a), offUnit(a))
			}
		}
	}
}

// TestOutsideTheDomain holds the calls to no result: they only have to end without a panic.
func TestOutsideTheDomain(t *testing.T) {
	wild := []int{math.MinInt, math.MinInt + 1, -1 << 32, -most - 1, -1, 0, 1, most + 1, 1 << 32, 3 << 31, 1 << 62, math.MaxInt}
	l := []api.Vec{}
	for _, x := range wild {
		for _, y := range wild {
			l = append(l, api.Vec{X: x, Y: y})
		}
	}
	for _, a := range l {
		vec.Neg(a)
		vec.Perp(a)
		vec.Len(a)
		vec.Normalize(a)
		for _, n := range wild {
			vec.Scale(a, n)
			for _, d := range wild {
				vec.MulDiv(a, n, d)
			}
		}
		for _, b := range l {
			vec.Add(a, b)
			vec.Sub(a, b)
			vec.Dot(a, b)
			vec.Cross(a, b)
		}
	}
}
