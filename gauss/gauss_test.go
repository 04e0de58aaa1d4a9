package gauss

import (
	"math"
	"math/big"
	"slices"
	"testing"

	"stook/api"
)

// far is how far out a part of a right point may be.
const far = 1 << 24

// zero is what stands beside each error.
var zero api.Spot

// at is the point with these parts.
func at(x, y int) api.Spot { return api.Spot{X: x, Y: y} }

// chance is a row of numbers that looks like chance and is the same each time.
type chance uint32

func (c *chance) below(n int) int {
	*c = *c*1664525 + 1013904223
	return int(*c>>16) % n
}

// part is a part of chance of a right point, as often a small one as a great one.
func (c *chance) part() int {
	n := (c.below(1<<16)<<9 | c.below(1<<9)) & (1<<c.below(26) - 1)
	n = min(n, far)
	if c.below(2) == 0 {
		return -n
	}
	return n
}

// spot is a right point of chance.
func (c *chance) spot() api.Spot { return at(c.part(), c.part()) }

// grid is all points whose parts are from -n to n.
func grid(n int) []api.Spot {
	var l []api.Spot
	for x := -n; x <= n; x++ {
		for y := -n; y <= n; y++ {
			l = append(l, at(x, y))
		}
	}
	return l
}

// edges is right points around all edges.
func edges() []api.Spot {
	parts := []int{-far, -far + 1, -far / 2, -4097, -4096, -4095, -3, -2, -1, 0, 1, 2, 3, 4095, 4096, 4097, far / 2, far - 1, far}
	var l []api.Spot
	for _, x := range parts {
		for _, y := range parts {
			l = append(l, at(x, y))
		}
	}
	return l
}

// wrongs is points that aren't right, by one part or by both.
func wrongs() []api.Spot {
	parts := []int{
		far + 1, far + 2, 2 * far, 1 << 31, 1 << 32, 1<<32 + 1, 1 << 53, 1 << 62, math.MaxInt - 1, math.MaxInt,
		-far - 1, -far - 2, -2 * far, -1 << 31, -1 << 32, -1<<32 - 1, -1 << 53, -1 << 62, math.MinInt + 1, math.MinInt,
	}
	var l []api.Spot
	for _, n := range parts {
		for _, other := range []int{0, 1, -1, far, -far, n, -n} {
			l = append(l, at(n, other), at(other, n))
		}
	}
	return l
}

// eachPair hands out pairs of right points: small ones all, those around all edges, and some of chance.
func eachPair(f func(a, b api.Spot)) {
	for _, l := range [][]api.Spot{grid(5), edges()} {
		for _, a := range l {
			for _, b := range l {
				f(a, b)
			}
		}
	}
	var ch chance
	for range 50000 {
		f(ch.spot(), ch.spot())
	}
}

// wide is a point whose parts have no bounds.
type wide struct{ x, y *big.Int }

func widen(a api.Spot) wide { return wide{big.NewInt(int64(a.X)), big.NewInt(int64(a.Y))} }

func (a wide) plus(b wide) wide {
	return wide{new(big.Int).Add(a.x, b.x), new(big.Int).Add(a.y, b.y)}
}

func (a wide) less(b wide) wide {
	return wide{new(big.Int).Sub(a.x, b.x), new(big.Int).Sub(a.y, b.y)}
}

func (a wide) times(b wide) wide {
	var p, q, r, s big.Int
	p.Mul(a.x, b.x)
	q.Mul(a.y, b.y)
	r.Mul(a.x, b.y)
	s.Mul(a.y, b.x)
	return wide{new(big.Int).Sub(&p, &q), new(big.Int).Add(&r, &s)}
}

func (a wide) norm() *big.Int {
	var p, q big.Int
	p.Mul(a.x, a.x)
	q.Mul(a.y, a.y)
	return p.Add(&p, &q)
}

// narrow is what a call answers whose result comes to this point.
func (a wide) narrow() (api.Spot, api.Errno) {
	most := big.NewInt(far)
	if a.x.CmpAbs(most) > 0 || a.y.CmpAbs(most) > 0 {
		return zero, api.ErrRange
	}
	return at(int(a.x.Int64()), int(a.y.Int64())), api.OK
}

// roundSlowly is a quotient rounded to the nearest whole number, a half to the greater one: it is found from below by what it is less than half away from.
func roundSlowly(n, by *big.Int) *big.Int {
	exact := new(big.Rat).SetFrac(n, by)
	half := big.NewRat(1, 2)
	// Quo leaves the fraction off, so that what is looked for is at most one away.
	q := new(big.Int).Quo(n, by)
	q.Sub(q, big.NewInt(1))
	for new(big.Rat).Sub(exact, new(big.Rat).SetInt(q)).Cmp(half) >= 0 {
		q.Add(q, big.NewInt(1))
	}
	return q
}

// slowDiv is the quotient and the rest as the chapter says them.
func slowDiv(a, b api.Spot) (wide, wide) {
	p := widen(a).times(widen(at(b.X, -b.Y)))
	n := widen(b).norm()
	q := wide{roundSlowly(p.x, n), roundSlowly(p.y, n)}
	return q, widen(a).less(q.times(widen(b)))
}

// slowTurn is a point multiplied with i so many times, from 0 on.
func slowTurn(a api.Spot, n int) api.Spot {
	for range n {
		a = at(-a.Y, a.X)
	}
	return a
}

// isFirst tells whether a point is the First of its four, or 0.
func isFirst(a api.Spot) bool { return a == zero || a.X > 0 && a.Y >= 0 }

// divides tells whether b makes a with another point; only 0 is made by 0.
func divides(b, a api.Spot) bool {
	if b == zero {
		return a == zero
	}
	n := b.X*b.X + b.Y*b.Y
	return (a.X*b.X+a.Y*b.Y)%n == 0 && (a.Y*b.X-a.X*b.Y)%n == 0
}

// is asks whether a call answered this point, or this error beside no point.
func is(t *testing.T, what string, a, b, got api.Spot, e api.Errno, want api.Spot, wantError api.Errno) {
	t.Helper()
	if got != want || e != wantError {
		t.Errorf("%s of %v and %v = %v, %d, want %v, %d", what, a, b, got, e, want, wantError)
	}
}

// refuses asks each call of two points for its error, beside nothing else.
func refuses(t *testing.T, a, b api.Spot) {
	t.Helper()
	for name, f := range map[string]func(a, b api.Spot) (api.Spot, api.Errno){"Add": Add, "Sub": Sub, "Mul": Mul, "Common": Common} {
		got, e := f(a, b)
		is(t, name, a, b, got, e, zero, api.ErrRange)
	}
	q, r, e := Div(a, b)
	if q != zero || r != zero || e != api.ErrRange {
		t.Errorf("Div of %v and %v = %v, %v, %d, want ErrRange", a, b, q, r, e)
	}
}

// 6.1: what is handed in isn't right

func TestWrongPointsAreRefused(t *testing.T) {
	partners := append(grid(1), at(far, far), at(-far, far), at(far, 0), at(0, -far), at(5, -7))
	for _, a := range wrongs() {
		for _, b := range partners {
			refuses(t, a, b)
			refuses(t, b, a)
		}
		refuses(t, a, a)
		refuses(t, a, at(-a.X, -a.Y))
		if got, e := Conj(a); got != zero || e != api.ErrRange {
			t.Errorf("Conj of %v = %v, %d, want ErrRange", a, got, e)
		}
		if got, e := Norm(a); got != 0 || e != api.ErrRange {
			t.Errorf("Norm of %v = %d, %d, want ErrRange", a, got, e)
		}
		for _, n := range []int{0, 1, 2, 3, 4, -1, math.MinInt, math.MaxInt} {
			if got, e := Turn(a, n); got != zero || e != api.ErrRange {
				t.Errorf("Turn of %v by %d = %v, %d, want ErrRange", a, n, got, e)
			}
		}
	}
}

func TestTwoWrongPointsAreRefused(t *testing.T) {
	l := wrongs()
	for _, a := range l {
		for _, b := range l {
			refuses(t, a, b)
		}
	}
}

func TestWhatComesOutRightDoesNotMendWhatIsHandedIn(t *testing.T) {
	for _, a := range []api.Spot{at(far+1, 0), at(0, far+1), at(-far-1, 0), at(0, -far-1)} {
		refuses(t, a, at(-a.X, -a.Y))
		refuses(t, a, zero)
		refuses(t, a, at(2, 0))
	}
}

// 6.1: Add, Sub

func TestSumsOfKnownPoints(t *testing.T) {
	for _, c := range []struct {
		a, b, sum, less api.Spot
	}{
		{zero, zero, zero, zero},
		{at(1, 2), at(3, -1), at(4, 1), at(-2, 3)},
		{at(-5, 7), zero, at(-5, 7), at(-5, 7)},
		{zero, at(-5, 7), at(-5, 7), at(5, -7)},
		{at(far-1, 1-far), at(1, -1), at(far, -far), at(far-2, 2-far)},
		{at(1-far, far-1), at(1, -1), at(2-far, far-2), at(-far, far)},
	} {
		got, e := Add(c.a, c.b)
		is(t, "Add", c.a, c.b, got, e, c.sum, api.OK)
		got, e = Sub(c.a, c.b)
		is(t, "Sub", c.a, c.b, got, e, c.less, api.OK)
	}
}

func TestSumsOutOfRange(t *testing.T) {
	for _, c := range [][2]api.Spot{
		{at(far, 0), at(1, 0)}, {at(-far, 0), at(-1, 0)}, {at(0, far), at(0, 1)}, {at(0, -far), at(0, -1)},
		{at(far, far), at(far, -far)}, {at(-far, far), at(far, far)}, {at(far, far), at(far, far)}, {at(-far, -far), at(-far, -far)},
		{at(far/2, 0), at(far/2+1, 0)}, {at(0, -far/2), at(0, -far/2-1)},
	} {
		got, e := Add(c[0], c[1])
		is(t, "Add", c[0], c[1], got, e, zero, api.ErrRange)
		opposite := at(-c[1].X, -c[1].Y)
		got, e = Sub(c[0], opposite)
		is(t, "Sub", c[0], opposite, got, e, zero, api.ErrRange)
	}
}

func TestSumsAreAsTheChapterSays(t *testing.T) {
	eachPair(func(a, b api.Spot) {
		want, wantError := widen(a).plus(widen(b)).narrow()
		got, e := Add(a, b)
		is(t, "Add", a, b, got, e, want, wantError)
		want, wantError = widen(a).less(widen(b)).narrow()
		got, e = Sub(a, b)
		is(t, "Sub", a, b, got, e, want, wantError)
	})
}

// 6.1: Mul

func TestMulOfKnownPoints(t *testing.T) {
	for _, c := range [][3]api.Spot{
		{at(1, 2), at(3, -1), at(5, 5)},
		{at(7, 1), at(2, -1), at(15, -5)},
		{at(0, 1), at(0, 1), at(-1, 0)},
		{at(0, 1), at(5, 3), at(-3, 5)},
		{zero, at(far, -far), zero},
		{at(1, 0), at(far, -far), at(far, -far)},
		{at(0, 1), at(far, -far), at(far, far)},
		{at(-1, 0), at(far, -far), at(-far, far)},
		{at(1<<12, 0), at(1<<12, 0), at(far, 0)},
		{at(0, 1<<12), at(1<<12, 0), at(0, far)},
		{at(0, 1<<12), at(0, 1<<12), at(-far, 0)},
		{at(4096, -4096), at(2048, 2048), at(far, 0)},
		{at(far/2, far/2), at(1, 1), at(0, far)},
		{at(far/2, far/2), at(-1, 1), at(-far, 0)},
		{at(1<<24, 0), at(-1, 0), at(-far, 0)},
	} {
		got, e := Mul(c[0], c[1])
		is(t, "Mul", c[0], c[1], got, e, c[2], api.OK)
	}
}

func TestMulOutOfRange(t *testing.T) {
	for _, c := range [][2]api.Spot{
		{at(1<<13, 0), at(1<<12, 0)},
		{at(far, 0), at(2, 0)}, {at(far, 0), at(-2, 0)}, {at(far, 0), at(0, 2)}, {at(far, 0), at(0, -2)},
		// One part alone, one beyond.
		{at(far, 1), at(1, -1)}, {at(far, 1), at(1, 1)}, {at(-far, -1), at(1, -1)}, {at(-far, -1), at(1, 1)},
		{at(4097, 0), at(4096, 0)}, {at(0, 4097), at(4096, 0)}, {at(0, 4097), at(0, 4096)}, {at(0, 4097), at(-4096, 0)},
		// The greatest that may be, by each other.
		{at(far, far), at(far, far)}, {at(far, -far), at(far, far)}, {at(-far, -far), at(far, far)}, {at(far, -far), at(far, -far)},
		{at(far-1, far-1), at(far-1, 1-far)},
	} {
		got, e := Mul(c[0], c[1])
		is(t, "Mul", c[0], c[1], got, e, zero, api.ErrRange)
		got, e = Mul(c[1], c[0])
		is(t, "Mul", c[1], c[0], got, e, zero, api.ErrRange)
	}
}

func TestMulIsAsTheChapterSays(t *testing.T) {
	eachPair(func(a, b api.Spot) {
		want, wantError := widen(a).times(widen(b)).narrow()
		got, e := Mul(a, b)
		is(t, "Mul", a, b, got, e, want, wantError)
	})
}

// 6.1: Div

func TestDivOfKnownPoints(t *testing.T) {
	for _, c := range []struct{ a, b, quotient, rest api.Spot }{
		{at(5, 5), at(2, 0), at(3, 3), at(-1, -1)},
		{at(7, 1), at(2, -1), at(3, 2), at(-1, 0)},
		{at(5, 5), at(1, 2), at(3, -1), zero},
		{zero, at(3, 4), zero, zero},
		{zero, at(-far, far), zero, zero},
		{at(3, 4), at(3, 4), at(1, 0), zero},
		{at(far, far), at(1, 0), at(far, far), zero},
		{at(far, -far), at(0, 1), at(-far, -far), zero},
		{at(far, far), at(1, 1), at(far, 0), zero},
		{at(far, far), at(1, -1), at(0, far), zero},
		{at(1, 0), at(far, far), zero, at(1, 0)},
		// A half in X, in Y, and in both, above 0 and below.
		{at(1, 0), at(2, 0), at(1, 0), at(-1, 0)},
		{at(-1, 0), at(2, 0), zero, at(-1, 0)},
		{at(3, 0), at(2, 0), at(2, 0), at(-1, 0)},
		{at(-3, 0), at(2, 0), at(-1, 0), at(-1, 0)},
		{at(0, 1), at(2, 0), at(0, 1), at(0, -1)},
		{at(0, -1), at(2, 0), zero, at(0, -1)},
		{at(0, 3), at(-2, 0), at(0, -1), at(0, 1)},
		{at(1, 1), at(2, 0), at(1, 1), at(-1, -1)},
		{at(-1, -1), at(2, 0), zero, at(-1, -1)},
		{at(1, -1), at(2, 0), at(1, 0), at(-1, -1)},
		{at(-5, 5), at(2, 0), at(-2, 3), at(-1, -1)},
		{at(1, 0), at(1, 1), at(1, 0), at(0, -1)},
		{at(far-1, 1-far), at(2, 0), at(far/2, 1-far/2), at(-1, -1)},
		// Just beside a half.
		{at(1, 0), at(3, 0), zero, at(1, 0)},
		{at(2, 0), at(3, 0), at(1, 0), at(-1, 0)},
		{at(-1, 0), at(3, 0), zero, at(-1, 0)},
		{at(-2, 0), at(3, 0), at(-1, 0), at(1, 0)},
		{at(far/2, 0), at(far, 0), at(1, 0), at(-far/2, 0)},
		{at(far/2-1, 0), at(far, 0), zero, at(far/2-1, 0)},
		{at(-far/2, 0), at(far, 0), zero, at(-far/2, 0)},
		{at(-far/2-1, 0), at(far, 0), at(-1, 0), at(far/2-1, 0)},
		{at(far/2-1, 0), at(far-1, 0), zero, at(far/2-1, 0)},
		{at(far/2, 0), at(far-1, 0), at(1, 0), at(1-far/2, 0)},
	} {
		q, r, e := Div(c.a, c.b)
		if q != c.quotient || r != c.rest || e != api.OK {
			t.Errorf("Div of %v and %v = %v, %v, %d, want %v, %v", c.a, c.b, q, r, e, c.quotient, c.rest)
		}
	}
}

func TestDivByNothing(t *testing.T) {
	for _, a := range append(edges(), grid(3)...) {
		if q, r, e := Div(a, zero); q != zero || r != zero || e != api.ErrZero {
			t.Errorf("Div of %v by 0 = %v, %v, %d, want ErrZero", a, q, r, e)
		}
	}
	// What isn't right is named first.
	for _, a := range wrongs() {
		if q, r, e := Div(a, zero); q != zero || r != zero || e != api.ErrRange {
			t.Errorf("Div of %v by 0 = %v, %v, %d, want ErrRange", a, q, r, e)
		}
		if q, r, e := Div(zero, a); q != zero || r != zero || e != api.ErrRange {
			t.Errorf("Div of 0 by %v = %v, %v, %d, want ErrRange", a, q, r, e)
		}
	}
}

func TestDivIsAsTheChapterSays(t *testing.T) {
	halves := 0
	eachPair(func(a, b api.Spot) {
		if b == zero {
			return
		}
		wideQuotient, wideRest := slowDiv(a, b)
		wantQuotient, e1 := wideQuotient.narrow()
		wantRest, e2 := wideRest.narrow()
		if e1 != api.OK || e2 != api.OK {
			t.Fatalf("the quotient or the rest of %v and %v isn't right", a, b)
		}
		q, r, e := Div(a, b)
		if q != wantQuotient || r != wantRest || e != api.OK {
			t.Errorf("Div of %v and %v = %v, %v, %d, want %v, %v", a, b, q, r, e, wantQuotient, wantRest)
		}
		twice, whole := 2*(r.X*r.X+r.Y*r.Y), b.X*b.X+b.Y*b.Y
		if twice > whole {
			t.Errorf("Div of %v and %v: the rest %v has more than half of the norm", a, b, r)
		}
		if twice == whole {
			halves++
		}
	})
	if halves == 0 {
		t.Errorf("no rest's norm was just half of the divisor's")
	}
}

func TestDivOfTheGreatestBySmallOnes(t *testing.T) {
	for _, a := range edges() {
		for _, b := range grid(12) {
			if b == zero {
				continue
			}
			q, r, e := Div(a, b)
			wideQuotient, wideRest := slowDiv(a, b)
			if widen(q).x.Cmp(wideQuotient.x) != 0 || widen(q).y.Cmp(wideQuotient.y) != 0 || widen(r).x.Cmp(wideRest.x) != 0 || widen(r).y.Cmp(wideRest.y) != 0 || e != api.OK {
				t.Errorf("Div of %v and %v = %v, %v, %d", a, b, q, r, e)
			}
		}
	}
}

// 6.1: Turn

func TestTurnOfKnownPoints(t *testing.T) {
	for n, want := range map[int]api.Spot{
		0: at(7, 1), 1: at(-1, 7), 2: at(-7, -1), 3: at(1, -7), 4: at(7, 1), 5: at(-1, 7), 7: at(1, -7), 8: at(7, 1), 1001: at(-1, 7),
		-1: at(1, -7), -2: at(-7, -1), -3: at(-1, 7), -4: at(7, 1), -5: at(1, -7), -7: at(-1, 7), -8: at(7, 1), -1001: at(1, -7),
		math.MaxInt: at(1, -7), math.MaxInt - 1: at(-7, -1), math.MaxInt - 2: at(-1, 7), math.MaxInt - 3: at(7, 1),
		math.MinInt: at(7, 1), math.MinInt + 1: at(-1, 7), math.MinInt + 2: at(-7, -1), math.MinInt + 3: at(1, -7),
		1 << 32: at(7, 1), 1<<32 + 1: at(-1, 7), -1<<32 - 1: at(1, -7),
	} {
		if got, e := Turn(at(7, 1), n); got != want || e != api.OK {
			t.Errorf("Turn by %d = %v, %d, want %v", n, got, e, want)
		}
	}
}

func TestTurnIsRepeatedMul(t *testing.T) {
	for _, a := range append(edges(), grid(2)...) {
		for n := -9; n <= 9; n++ {
			unit := at(0, 1)
			if n < 0 {
				unit = at(0, -1)
			}
			want := a
			for range max(n, -n) {
				want, _ = Mul(want, unit)
			}
			if got, e := Turn(a, n); got != want || e != api.OK {
				t.Errorf("Turn of %v by %d = %v, %d, want %v", a, n, got, e, want)
			}
		}
	}
}

// 6.1: Conj, Norm

func TestConjAndNormOfKnownPoints(t *testing.T) {
	for _, c := range []struct {
		a, conj api.Spot
		norm    int
	}{
		{zero, zero, 0},
		{at(7, 1), at(7, -1), 50},
		{at(-3, -4), at(-3, 4), 25},
		{at(0, 1), at(0, -1), 1},
		{at(-1, 0), at(-1, 0), 1},
		{at(far, 0), at(far, 0), 1 << 48},
		{at(0, -far), at(0, far), 1 << 48},
		{at(far, far), at(far, -far), 1 << 49},
		{at(-far, -far), at(-far, far), 1 << 49},
		{at(-far, far), at(-far, -far), 1 << 49},
		{at(far, 1-far), at(far, far-1), 1<<49 - 1<<25 + 1},
	} {
		if got, e := Conj(c.a); got != c.conj || e != api.OK {
			t.Errorf("Conj of %v = %v, %d, want %v", c.a, got, e, c.conj)
		}
		if got, e := Norm(c.a); got != c.norm || e != api.OK {
			t.Errorf("Norm of %v = %d, %d, want %d", c.a, got, e, c.norm)
		}
	}
}

func TestConjAndNormAreAsTheChapterSays(t *testing.T) {
	l := append(edges(), grid(5)...)
	var ch chance
	for range 5000 {
		l = append(l, ch.spot())
	}
	for _, a := range l {
		if got, e := Conj(a); got != at(a.X, -a.Y) || e != api.OK {
			t.Errorf("Conj of %v = %v, %d", a, got, e)
		}
		want := widen(a).norm()
		if got, e := Norm(a); big.NewInt(int64(got)).Cmp(want) != 0 || e != api.OK {
			t.Errorf("Norm of %v = %d, %d, want %s", a, got, e, want)
		}
	}
}

// 6.2: Common

func TestCommonOfKnownPoints(t *testing.T) {
	for _, c := range [][3]api.Spot{
		{zero, zero, zero},
		{at(5, 5), at(0, 10), at(5, 5)},
		{at(-3, 0), zero, at(3, 0)},
		{zero, at(-3, 0), at(3, 0)},
		{at(12, 0), at(18, 0), at(6, 0)},
		{at(0, -12), at(-18, 0), at(6, 0)},
		{at(1, 0), at(far, -far), at(1, 0)},
		{at(2, 0), at(1, 1), at(1, 1)},
		{at(5, 0), at(3, 4), at(2, 1)},
		{at(5, 0), at(3, -4), at(1, 2)},
		{at(2, 1), at(1, 2), at(1, 0)},
		{at(far, far), at(far, -far), at(far, far)},
		{at(far, 0), at(far-1, 0), at(1, 0)},
	} {
		got, e := Common(c[0], c[1])
		is(t, "Common", c[0], c[1], got, e, c[2], api.OK)
	}
}

func TestFirstOfEachAxisAndQuarter(t *testing.T) {
	for _, c := range [][2]api.Spot{
		{at(3, 0), at(3, 0)}, {at(0, 3), at(3, 0)}, {at(-3, 0), at(3, 0)}, {at(0, -3), at(3, 0)},
		{at(3, 2), at(3, 2)}, {at(-2, 3), at(3, 2)}, {at(-3, -2), at(3, 2)}, {at(2, -3), at(3, 2)},
		{at(2, 3), at(2, 3)}, {at(-3, 2), at(2, 3)}, {at(-2, -3), at(2, 3)}, {at(3, -2), at(2, 3)},
		{at(far, 0), at(far, 0)}, {at(0, far), at(far, 0)}, {at(-far, 0), at(far, 0)}, {at(0, -far), at(far, 0)},
		{at(far, far), at(far, far)}, {at(-far, far), at(far, far)}, {at(-far, -far), at(far, far)}, {at(far, -far), at(far, far)},
		{at(1, 0), at(1, 0)}, {at(0, 1), at(1, 0)}, {at(-1, 0), at(1, 0)}, {at(0, -1), at(1, 0)},
	} {
		got, e := Common(c[0], zero)
		is(t, "Common", c[0], zero, got, e, c[1], api.OK)
		got, e = Common(zero, c[0])
		is(t, "Common", zero, c[0], got, e, c[1], api.OK)
	}
}

func TestCommonOfNothingOfItselfAndOfItsTurns(t *testing.T) {
	for _, a := range append(edges(), grid(4)...) {
		got, e := Common(a, zero)
		if e != api.OK || !isFirst(got) || !slices.Contains([]api.Spot{a, slowTurn(a, 1), slowTurn(a, 2), slowTurn(a, 3)}, got) {
			t.Errorf("Common of %v and 0 = %v, %d", a, got, e)
		}
		want := got
		got, e = Common(zero, a)
		is(t, "Common", zero, a, got, e, want, api.OK)
		for n := range 4 {
			turned := slowTurn(a, n)
			got, e = Common(a, turned)
			is(t, "Common", a, turned, got, e, want, api.OK)
			got, e = Common(turned, zero)
			is(t, "Common", turned, zero, got, e, want, api.OK)
		}
	}
}

func TestCommonOfWholeNumbersIsTheirs(t *testing.T) {
	for a := range 60 {
		for b := range 60 {
			greatest := 0
			if a != 0 || b != 0 {
				greatest = 1
			}
			for d := 2; d <= max(a, b); d++ {
				if a%d == 0 && b%d == 0 {
					greatest = d
				}
			}
			got, e := Common(at(a, 0), at(-b, 0))
			is(t, "Common", at(a, 0), at(-b, 0), got, e, at(greatest, 0), api.OK)
			got, e = Common(at(0, -a), at(b, 0))
			is(t, "Common", at(0, -a), at(b, 0), got, e, at(greatest, 0), api.OK)
		}
	}
}

func TestCommonEndsBehindManyRests(t *testing.T) {
	// Each of these by the one ahead of it leaves the one two ahead of it, so that there are as many rests as may be.
	a, b := at(0, 0), at(1, 0)
	steps := 0
	for {
		wideNext := widen(b).times(widen(at(2, 1))).plus(widen(a))
		next, e := wideNext.narrow()
		if e != api.OK {
			break
		}
		a, b = b, next
		steps++
		got, e := Common(b, a)
		is(t, "Common", b, a, got, e, at(1, 0), api.OK)
	}
	if steps < 10 {
		t.Errorf("there were %d rests", steps)
	}
}

// 6.2: Less

func TestLessOfKnownPoints(t *testing.T) {
	for _, c := range []struct {
		a, b api.Spot
		less bool
	}{
		{zero, zero, false},
		{at(7, 1), at(7, 1), false},
		{at(1, 9), at(2, 0), true},
		{at(2, 0), at(1, 9), false},
		{at(1, 0), at(1, 1), true},
		{at(1, 1), at(1, 0), false},
		{at(-1, 5), at(1, -5), true},
		{at(3, -1), at(3, 1), true},
		{at(5, 2), at(6, 2), true},
		{at(6, 2), at(5, 2), false},
		{at(-far, far), at(far, -far), true},
		// And of points that aren't right.
		{at(far+1, 0), at(far+2, 0), true},
		{at(far+1, 0), at(far, 0), false},
		{at(math.MinInt, 0), at(math.MaxInt, 0), true},
		{at(math.MaxInt, 0), at(math.MinInt, 0), false},
		{at(0, math.MinInt), at(0, math.MaxInt), true},
		{at(0, math.MaxInt), at(0, math.MinInt), false},
		{at(math.MinInt, math.MinInt), at(math.MinInt, math.MinInt), false},
		{at(math.MaxInt, math.MinInt), at(math.MaxInt, math.MaxInt), true},
		{at(math.MaxInt-1, math.MaxInt), at(math.MaxInt, math.MinInt), true},
	} {
		if Less(c.a, c.b) != c.less {
			t.Errorf("Less of %v and %v = %v", c.a, c.b, !c.less)
		}
	}
}

func TestLessIsAnOrder(t *testing.T) {
	// They are made in order, by X, then by Y.
	parts := []int{math.MinInt, math.MinInt + 1, -1 << 53, -far - 1, -far, -1, 0, 1, far, far + 1, 1 << 53, math.MaxInt - 1, math.MaxInt}
	var l []api.Spot
	for _, x := range parts {
		for _, y := range parts {
			l = append(l, at(x, y))
		}
	}
	for i, a := range l {
		for j, b := range l {
			if Less(a, b) != (i < j) {
				t.Errorf("Less of %v and %v = %v", a, b, Less(a, b))
			}
		}
	}
}

// 6.2: Right

func TestRight(t *testing.T) {
	for _, a := range append(edges(), grid(3)...) {
		if !Right(a) {
			t.Errorf("%v isn't Right", a)
		}
	}
	for _, a := range wrongs() {
		if Right(a) {
			t.Errorf("%v is Right", a)
		}
	}
}

// 6.3: the laws

func TestLawsOfTwo(t *testing.T) {
	eachPair(func(a, b api.Spot) {
		sum, sumError := Add(a, b)
		other, otherError := Add(b, a)
		is(t, "the sum", a, b, sum, sumError, other, otherError)
		if sumError == api.OK {
			back, e := Sub(sum, b)
			is(t, "Sub of the sum", a, b, back, e, a, api.OK)
		}
		product, productError := Mul(a, b)
		other, otherError = Mul(b, a)
		is(t, "the product", a, b, product, productError, other, otherError)
		if productError != api.OK {
			return
		}
		n, _ := Norm(product)
		na, _ := Norm(a)
		nb, _ := Norm(b)
		if n != na*nb {
			t.Errorf("the norm of the product of %v and %v is %d, of the norms %d", a, b, n, na*nb)
		}
		if b != zero {
			if q, r, e := Div(product, b); q != a || r != zero || e != api.OK {
				t.Errorf("Div of the product of %v and %v by that = %v, %v, %d", a, b, q, r, e)
			}
		}
	})
}

func TestLawsOfThree(t *testing.T) {
	l := grid(2)
	var ch chance
	for range 20 {
		l = append(l, at(ch.below(200)-100, ch.below(200)-100))
	}
	right := func(a api.Spot, e api.Errno) api.Spot {
		t.Helper()
		if e != api.OK {
			t.Fatalf("out of range")
		}
		return a
	}
	for _, a := range l {
		for _, b := range l {
			for _, c := range l {
				if right(Add(right(Add(a, b)), c)) != right(Add(a, right(Add(b, c)))) {
					t.Errorf("the sum of %v, %v, %v hangs on which are added first", a, b, c)
				}
				if right(Mul(right(Mul(a, b)), c)) != right(Mul(a, right(Mul(b, c)))) {
					t.Errorf("the product of %v, %v, %v hangs on which are multiplied first", a, b, c)
				}
				if right(Mul(a, right(Add(b, c)))) != right(Add(right(Mul(a, b)), right(Mul(a, c)))) {
					t.Errorf("%v isn't spread over the sum of %v and %v", a, b, c)
				}
				if right(Sub(a, right(Add(b, c)))) != right(Sub(right(Sub(a, b)), c)) {
					t.Errorf("%v less the sum of %v and %v is another one than less each", a, b, c)
				}
			}
		}
	}
}

func TestLawsOfOne(t *testing.T) {
	for _, a := range append(edges(), grid(4)...) {
		got, e := Add(a, zero)
		is(t, "Add", a, zero, got, e, a, api.OK)
		got, e = Sub(a, zero)
		is(t, "Sub", a, zero, got, e, a, api.OK)
		got, e = Sub(a, a)
		is(t, "Sub", a, a, got, e, zero, api.OK)
		got, e = Mul(a, at(1, 0))
		is(t, "Mul", a, at(1, 0), got, e, a, api.OK)
		got, e = Mul(a, zero)
		is(t, "Mul", a, zero, got, e, zero, api.OK)
		conj, _ := Conj(a)
		got, e = Conj(conj)
		is(t, "Conj", conj, zero, got, e, a, api.OK)
		n, _ := Norm(a)
		want, wantError := zero, api.ErrRange
		if n <= far {
			want, wantError = at(n, 0), api.OK
		}
		got, e = Mul(a, conj)
		is(t, "Mul", a, conj, got, e, want, wantError)
	}
}

func TestCommonDividesBoth(t *testing.T) {
	eachPair(func(a, b api.Spot) {
		got, e := Common(a, b)
		if e != api.OK || !Right(got) || !isFirst(got) {
			t.Errorf("Common of %v and %v = %v, %d", a, b, got, e)
		}
		if !divides(got, a) || !divides(got, b) {
			t.Errorf("Common of %v and %v = %v, which doesn't divide both", a, b, got)
		}
		other, otherError := Common(b, a)
		is(t, "Common", b, a, other, otherError, got, e)
	})
}

func TestCommonIsDividedByEachThatDividesBoth(t *testing.T) {
	l := grid(6)
	for _, a := range l {
		for _, b := range l {
			got, _ := Common(a, b)
			for _, d := range l {
				if divides(d, a) && divides(d, b) && !divides(d, got) {
					t.Errorf("Common of %v and %v = %v, which %v doesn't divide", a, b, got, d)
				}
			}
		}
	}
}

func TestCommonOfMultiplesIsAMultiple(t *testing.T) {
	var ch chance
	for range 20000 {
		a, b, c := at(ch.below(2000)-1000, ch.below(2000)-1000), at(ch.below(2000)-1000, ch.below(2000)-1000), at(ch.below(2000)-1000, ch.below(2000)-1000)
		ac, e1 := Mul(a, c)
		bc, e2 := Mul(b, c)
		of, e3 := Common(a, b)
		product, e4 := Mul(of, c)
		if e1 != api.OK || e2 != api.OK || e3 != api.OK || e4 != api.OK {
			t.Fatalf("of %v, %v, %v: %d, %d, %d, %d", a, b, c, e1, e2, e3, e4)
		}
		want, _ := Common(product, zero)
		got, e := Common(ac, bc)
		is(t, "Common", ac, bc, got, e, want, api.OK)
	}
}
