package fixed_test

import (
	"math"
	"math/big"
	"slices"
	"testing"

	"arenanet/api"
	"arenanet/fixed"
)

// most is the largest absolute value that Mul, Div and MulDiv allow.
const most = 1 << 31

// samples returns factors and divisors of both signs in increasing order, with the largest allowed ones.
func samples() []int {
	l := []int{0}
	for _, n := range []int{1, 2, 3, 7, 10, 341, 512, 1023, 1024, 1025, 1536, 2047, 2048, 999999, api.MaxCoord, 1000000007, most - 1024, most - 1, most} {
		l = append(l, n, -n)
	}
	slices.Sort(l)
	return l
}

// exact returns the floor of a * b / c by unbounded arithmetic, and whether the quotient is an integer.
func exact(a, b, c int) (floor int, whole bool) {
	n := new(big.Int).Mul(big.NewInt(int64(a)), big.NewInt(int64(b)))
	d := big.NewInt(int64(c))
	if c < 0 {
		n.Neg(n)
		d.Neg(d)
	}
	q, r := new(big.Int).DivMod(n, d, new(big.Int))
	return int(q.Int64()), r.Sign() == 0
}

// isRoot reports whether r is the largest number with r * r <= n, by unbounded arithmetic.
func isRoot(r, n int) bool {
	square := func(k int) *big.Int { return new(big.Int).Mul(big.NewInt(int64(k)), big.NewInt(int64(k))) }
	return r >= 0 && square(r).Cmp(big.NewInt(int64(n))) <= 0 && square(r+1).Cmp(big.NewInt(int64(n))) > 0
}

// roots returns numbers whose squares are at most 2^62.
func roots() []int {
	l := []int{}
	for r := 0; r <= 1100; r++ {
		l = append(l, r)
	}
	for k := 11; k <= 31; k++ {
		l = append(l, 1<<k-1, 1<<k)
		if k < 31 {
			l = append(l, 1<<k+1, 3<<(k-1))
		}
	}
	return append(l, 1999999973, most-2)
}

func TestP1_1_Examples(t *testing.T) {
	for i, x := range [][2]int{
		{fixed.Mul(1536, 2048), 3072}, {fixed.Mul(-1, 1), -1}, {fixed.Mul(1, -1), -1}, {fixed.Mul(-1, -1), 0}, {fixed.Mul(0, -5), 0},
		{fixed.Mul(most, most), 1 << 52}, {fixed.Mul(-most, most), -1 << 52}, {fixed.Mul(-most, -most), 1 << 52}, {fixed.Mul(most-1, -1), -(1 << 21)},
		{fixed.Div(1, 3), 341}, {fixed.Div(-1, 3), -342}, {fixed.Div(1, -3), -342}, {fixed.Div(-1, -3), 341}, {fixed.Div(0, -3), 0},
		{fixed.Div(most, 1), 1 << 41}, {fixed.Div(-most, -1), 1 << 41}, {fixed.Div(1, most), 0}, {fixed.Div(-1, most), -1}, {fixed.Div(1, -most), -1},
		{fixed.MulDiv(7, 3, 2), 10}, {fixed.MulDiv(-7, 3, 2), -11}, {fixed.MulDiv(7, 3, -2), -11}, {fixed.MulDiv(-7, 3, -2), 10}, {fixed.MulDiv(6, 3, -2), -9},
		{fixed.MulDiv(most, most, 1), 1 << 62}, {fixed.MulDiv(most, -most, 1), -1 << 62}, {fixed.MulDiv(most, most, -1), -1 << 62}, {fixed.MulDiv(most, most, -most), -most},
	} {
		if x[0] != x[1] {
			t.Errorf("%d: %d, want %d", i, x[0], x[1])
		}
	}
}

func TestP1_1_Floors(t *testing.T) {
	for _, a := range samples() {
		for _, b := range samples() {
			if want, _ := exact(a, b, api.One); fixed.Mul(a, b) != want {
				t.Errorf("Mul(%d, %d) = %d, want %d", a, b, fixed.Mul(a, b), want)
			}
			if b == 0 {
				continue
			}
			if want, _ := exact(a, api.One, b); fixed.Div(a, b) != want {
				t.Errorf("Div(%d, %d) = %d, want %d", a, b, fixed.Div(a, b), want)
			}
			for _, f := range samples() {
				if want, _ := exact(a, f, b); fixed.MulDiv(a, f, b) != want {
					t.Errorf("MulDiv(%d, %d, %d) = %d, want %d", a, f, b, fixed.MulDiv(a, f, b), want)
				}
			}
		}
	}
}

func TestP1_1_DivisorZero(t *testing.T) {
	for _, a := range samples() {
		if got := fixed.Div(a, 0); got != 0 {
			t.Errorf("Div(%d, 0) = %d", a, got)
		}
		for _, b := range samples() {
			if got := fixed.MulDiv(a, b, 0); got != 0 {
				t.Errorf("MulDiv(%d, %d, 0) = %d", a, b, got)
			}
		}
	}
}

func TestP1_2_Isqrt(t *testing.T) {
	for n := 0; n <= 70000; n++ {
		if got := fixed.Isqrt(n); !isRoot(got, n) {
			t.Fatalf("Isqrt(%d) = %d", n, got)
		}
	}
	for _, r := range roots() {
		for n := max(0, r*r-2); n <= min(r*r+2, 1<<62); n++ {
			if got := fixed.Isqrt(n); !isRoot(got, n) {
				t.Errorf("Isqrt(%d) = %d", n, got)
			}
		}
	}
	for n := 1<<62 - 3; n > 0; n /= 3 {
		if got := fixed.Isqrt(n); !isRoot(got, n) {
			t.Errorf("Isqrt(%d) = %d", n, got)
		}
	}
	if fixed.Isqrt(24) != 4 || fixed.Isqrt(1<<62) != most || fixed.Isqrt(1<<62-1) != most-1 {
		t.Error("Isqrt of 24, 2^62 or 2^62 - 1")
	}
}

func TestP1_2_Sqrt(t *testing.T) {
	for a := 0; a <= 70000; a++ {
		if got := fixed.Sqrt(a); !isRoot(got, a*api.One) || got != fixed.Isqrt(a*api.One) {
			t.Fatalf("Sqrt(%d) = %d", a, got)
		}
	}
	for a := 1 << 52; a > 0; a /= 3 {
		if got := fixed.Sqrt(a); !isRoot(got, a*api.One) {
			t.Errorf("Sqrt(%d) = %d", a, got)
		}
	}
	for a, want := range map[int]int{1: 32, 1024: 1024, 2048: 1448, 4096: 2048, 1<<52 - 1: most - 1, 1 << 52: most} {
		if got := fixed.Sqrt(a); got != want {
			t.Errorf("Sqrt(%d) = %d, want %d", a, got, want)
		}
	}
}

func TestP1_2_NegativeUnderTheRoot(t *testing.T) {
	// The products of the last three with One wrap round to positive numbers.
	for _, n := range []int{-1, -2, -4, -1024, -most, -1 << 52, -1 << 62, math.MinInt, math.MinInt + 1, -1<<53 - 1, -3 << 52} {
		if got := fixed.Isqrt(n); got != 0 {
			t.Errorf("Isqrt(%d) = %d", n, got)
		}
		if got := fixed.Sqrt(n); got != 0 {
			t.Errorf("Sqrt(%d) = %d", n, got)
		}
	}
}

func TestP1_3_Clamp(t *testing.T) {
	for _, x := range [][4]int{
		{5, 1, 3, 3}, {-5, 1, 3, 1}, {2, 1, 3, 2}, {1, 1, 3, 1}, {3, 1, 3, 3}, {0, 1, 3, 1}, {4, 1, 3, 3},
		{9, 4, 4, 4}, {3, 4, 4, 4}, {4, 4, 4, 4}, {-2, -3, -1, -2}, {-4, -3, -1, -3}, {0, -3, -1, -1},
		{math.MinInt, -7, 7, -7}, {math.MaxInt, -7, 7, 7}, {11, math.MinInt, math.MaxInt, 11}, {math.MinInt, math.MinInt, math.MaxInt, math.MinInt}, {math.MaxInt, math.MinInt, math.MaxInt, math.MaxInt},
	} {
		if got := fixed.Clamp(x[0], x[1], x[2]); got != x[3] {
			t.Errorf("Clamp(%d, %d, %d) = %d, want %d", x[0], x[1], x[2], got, x[3])
		}
	}
}

func TestP1_3_AbsSign(t *testing.T) {
	for _, n := range []int{1, 2, 7, 1024, most, 1 << 62, math.MaxInt} {
		if fixed.Abs(n) != n || fixed.Abs(-n) != n {
			t.Errorf("Abs of %d or its negative: %d, %d", n, fixed.Abs(n), fixed.Abs(-n))
		}
		if fixed.Sign(n) != 1 || fixed.Sign(-n) != -1 {
			t.Errorf("Sign of %d or its negative: %d, %d", n, fixed.Sign(n), fixed.Sign(-n))
		}
	}
	if fixed.Abs(0) != 0 || fixed.Sign(0) != 0 || fixed.Sign(math.MinInt) != -1 {
		t.Error("Abs or Sign of 0, Sign of the smallest int")
	}
}

func TestP1_4_Remainder(t *testing.T) {
	for _, a := range samples() {
		if got := fixed.Mul(a, api.One); got != a {
			t.Errorf("Mul(%d, One) = %d", a, got)
		}
		for _, c := range samples() {
			if c == 0 {
				continue
			}
			if got := fixed.MulDiv(a, c, c); got != a {
				t.Errorf("MulDiv(%d, %d, %d) = %d", a, c, c, got)
			}
			for _, b := range samples() {
				rest := a*b - c*fixed.MulDiv(a, b, c)
				if rest != 0 && (rest < 0) != (c < 0) || fixed.Abs(rest) >= fixed.Abs(c) {
					t.Errorf("MulDiv(%d, %d, %d) = %d leaves %d", a, b, c, fixed.MulDiv(a, b, c), rest)
				}
			}
		}
	}
}

func TestP1_5_MulOrder(t *testing.T) {
	l := samples()
	for _, b := range l {
		for i, a := range l {
			if fixed.Mul(a, b) != fixed.Mul(b, a) {
				t.Errorf("Mul(%d, %d) = %d, the other way %d", a, b, fixed.Mul(a, b), fixed.Mul(b, a))
			}
			if b >= 0 && i > 0 && fixed.Mul(l[i-1], b) > fixed.Mul(a, b) {
				t.Errorf("Mul(%d, %d) > Mul(%d, %d)", l[i-1], b, a, b)
			}
			if b >= 0 && a < most && fixed.Mul(a, b) > fixed.Mul(a+1, b) {
				t.Errorf("Mul(%d, %d) > Mul(%d, %d)", a, b, a+1, b)
			}
			if a+api.One <= most && fixed.Mul(a+api.One, b) != fixed.Mul(a, b)+b {
				t.Errorf("Mul(%d + One, %d) = %d", a, b, fixed.Mul(a+api.One, b))
			}
		}
	}
}

// negated returns what a rounded quotient becomes when one argument is negated.
func negated(floor int, whole bool) int {
	if whole {
		return -floor
	}
	return -floor - 1
}

func TestP1_5_Negation(t *testing.T) {
	for _, a := range samples() {
		for _, b := range samples() {
			_, whole := exact(a, b, api.One)
			if want := negated(fixed.Mul(a, b), whole); fixed.Mul(-a, b) != want || fixed.Mul(a, -b) != want {
				t.Errorf("Mul(%d, %d) negated: %d, %d, want %d", a, b, fixed.Mul(-a, b), fixed.Mul(a, -b), want)
			}
			if b == 0 {
				continue
			}
			_, whole = exact(a, api.One, b)
			if want := negated(fixed.Div(a, b), whole); fixed.Div(-a, b) != want || fixed.Div(a, -b) != want {
				t.Errorf("Div(%d, %d) negated: %d, %d, want %d", a, b, fixed.Div(-a, b), fixed.Div(a, -b), want)
			}
			for _, f := range samples() {
				_, whole = exact(a, f, b)
				want := negated(fixed.MulDiv(a, f, b), whole)
				if fixed.MulDiv(-a, f, b) != want || fixed.MulDiv(a, -f, b) != want || fixed.MulDiv(a, f, -b) != want {
					t.Errorf("MulDiv(%d, %d, %d) negated, want %d", a, f, b, want)
				}
			}
		}
	}
}

func TestP1_6_IsqrtOrder(t *testing.T) {
	last := 0
	for n := -5; n <= 70000; n++ {
		got := fixed.Isqrt(n)
		if got < last {
			t.Fatalf("Isqrt(%d) = %d is below Isqrt(%d) = %d", n, got, n-1, last)
		}
		last = got
	}
	for _, r := range roots() {
		if r*r <= 1<<62 && fixed.Isqrt(r*r) != r {
			t.Errorf("Isqrt(%d * %d) = %d", r, r, fixed.Isqrt(r*r))
		}
		if r*r+2*r <= 1<<62 && fixed.Isqrt(r*r+2*r) != r {
			t.Errorf("Isqrt(%d * %d + 2 * %d) = %d", r, r, r, fixed.Isqrt(r*r+2*r))
		}
		if r > 0 && fixed.Isqrt(r*r-1) != r-1 {
			t.Errorf("Isqrt(%d * %d - 1) = %d", r, r, fixed.Isqrt(r*r-1))
		}
	}
}

// TestOutsideTheDomain holds the calls to no result: they only have to end without a panic.
func TestOutsideTheDomain(t *testing.T) {
	wild := []int{math.MinInt, math.MinInt + 1, -1<<53 - 1, -1, 0, 1, 1<<53 + 1, 1<<62 + 1, math.MaxInt - 1, math.MaxInt}
	for _, a := range wild {
		fixed.Isqrt(a)
		fixed.Sqrt(a)
		fixed.Abs(a)
		fixed.Sign(a)
		for _, b := range wild {
			fixed.Mul(a, b)
			fixed.Div(a, b)
			for _, c := range wild {
				fixed.MulDiv(a, b, c)
				fixed.Clamp(a, b, c)
			}
		}
	}
}
