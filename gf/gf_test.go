package gf

import (
	"bytes"
	"math"
	"slices"
	"testing"
)

// slowMul is the product as the chapter defines it: polynomials multiplied bit by bit, then their rest, without any table.
func slowMul(a, b byte) byte {
	product := 0
	for bit := range 8 {
		if b>>bit&1 == 1 {
			product ^= int(a) << bit
		}
	}
	for bit := 14; bit >= 8; bit-- {
		if product>>bit&1 == 1 {
			product ^= 0b1_0001_1101 << (bit - 8)
		}
	}
	return byte(product)
}

// slowInverse is found by looking through all bytes.
func slowInverse(t *testing.T, a byte) byte {
	t.Helper()
	for b := range 256 {
		if slowMul(a, byte(b)) == 1 {
			return byte(b)
		}
	}
	t.Fatalf("nothing makes 1 with %d", a)
	return 0
}

// slowPow multiplies n times.
func slowPow(t *testing.T, a byte, n int) byte {
	t.Helper()
	if n < 0 && a == 0 {
		return 0
	}
	if n < 0 {
		a, n = slowInverse(t, a), -n
	}
	product := byte(1)
	for range n {
		product = slowMul(product, a)
	}
	return product
}

// eachPair calls what is to be done with all pairs of bytes.
func eachPair(do func(a, b byte)) {
	for a := range 256 {
		for b := range 256 {
			do(byte(a), byte(b))
		}
	}
}

// farExponents are beyond any table, up to the ends of what a number can be.
var farExponents = []int{
	255, 256, 510, 511, 1000, 65535, math.MaxInt32, math.MaxInt - 1, math.MaxInt,
	-255, -256, -510, -511, -1000, -65536, math.MinInt32, math.MinInt + 1, math.MinInt,
}

// near is what an exponent comes to, as the 255th power of each byte but 0 is 1.
func near(n int) int { return (n%255 + 255) % 255 }

// 1.1: New

func TestNewMakesFieldsOfTheirOwn(t *testing.T) {
	f, g := New(), New()
	if f == nil || g == nil || f == g {
		t.Fatalf("New answered %p and %p", f, g)
	}
	if *f != *g {
		t.Errorf("two fields are not alike")
	}
}

func TestNewIsNotSpoiltByAnEarlierField(t *testing.T) {
	*New() = Field{}
	if got := New().Mul(2, 128); got != 29 {
		t.Errorf("Mul(2, 128) = %d", got)
	}
}

// 1.1: Add

func TestAddIsExclusiveOr(t *testing.T) {
	for _, x := range [][3]byte{{0, 0, 0}, {5, 0, 5}, {5, 3, 6}, {255, 255, 0}, {255, 1, 254}, {0xf0, 0x0f, 0xff}} {
		if got := Add(x[0], x[1]); got != x[2] {
			t.Errorf("Add(%d, %d) = %d, want %d", x[0], x[1], got, x[2])
		}
	}
	eachPair(func(a, b byte) {
		if Add(a, b) != a^b {
			t.Errorf("Add(%d, %d) = %d", a, b, Add(a, b))
		}
	})
}

// 1.1: Mul

func TestMulOfKnownBytes(t *testing.T) {
	f := New()
	for _, x := range [][3]byte{{2, 128, 29}, {0, 5, 0}, {5, 0, 0}, {0, 0, 0}, {1, 7, 7}, {3, 3, 5}, {255, 1, 255}, {128, 128, 19}} {
		if got := f.Mul(x[0], x[1]); got != x[2] {
			t.Errorf("Mul(%d, %d) = %d, want %d", x[0], x[1], got, x[2])
		}
	}
}

func TestMulIsTheRestOfTheProduct(t *testing.T) {
	f := New()
	eachPair(func(a, b byte) {
		if got, want := f.Mul(a, b), slowMul(a, b); got != want {
			t.Errorf("Mul(%d, %d) = %d, want %d", a, b, got, want)
		}
	})
}

// 1.1: Div

func TestDivOfKnownBytes(t *testing.T) {
	f := New()
	for _, x := range [][3]byte{{29, 2, 128}, {29, 128, 2}, {0, 7, 0}, {7, 1, 7}, {200, 200, 1}, {1, 2, 142}} {
		if got, ok := f.Div(x[0], x[1]); got != x[2] || !ok {
			t.Errorf("Div(%d, %d) = %d, %v, want %d", x[0], x[1], got, ok, x[2])
		}
	}
}

func TestDivMakesTheFirstWithTheSecond(t *testing.T) {
	f := New()
	eachPair(func(a, b byte) {
		got, ok := f.Div(a, b)
		if b == 0 {
			if got != 0 || ok {
				t.Errorf("Div(%d, 0) = %d, %v", a, got, ok)
			}
			return
		}
		if !ok || slowMul(got, b) != a {
			t.Errorf("Div(%d, %d) = %d, %v", a, b, got, ok)
		}
	})
}

// 1.1: Pow

func TestPowIsRepeatedMul(t *testing.T) {
	f := New()
	for a := range 256 {
		for n := -9; n <= 9; n++ {
			if got, want := f.Pow(byte(a), n), slowPow(t, byte(a), n); got != want {
				t.Errorf("Pow(%d, %d) = %d, want %d", a, n, got, want)
			}
		}
	}
	for _, n := range []int{100, 254, 255, 256, 600, -100, -254, -255, -256, -600} {
		for _, a := range []byte{1, 2, 3, 29, 128, 142, 255} {
			if got, want := f.Pow(a, n), slowPow(t, a, n); got != want {
				t.Errorf("Pow(%d, %d) = %d, want %d", a, n, got, want)
			}
		}
	}
}

func TestPowOfFarExponents(t *testing.T) {
	f := New()
	for _, n := range farExponents {
		for a := 1; a < 256; a++ {
			if got, want := f.Pow(byte(a), n), slowPow(t, byte(a), near(n)); got != want {
				t.Errorf("Pow(%d, %d) = %d, want %d", a, n, got, want)
			}
		}
	}
}

func TestPowOfNoneAndOfNought(t *testing.T) {
	f := New()
	for a := range 256 {
		if got := f.Pow(byte(a), 0); got != 1 {
			t.Errorf("Pow(%d, 0) = %d", a, got)
		}
	}
	for _, n := range append([]int{1, 2, 254, -1, -2, -254}, farExponents...) {
		if got := f.Pow(0, n); got != 0 {
			t.Errorf("Pow(0, %d) = %d", n, got)
		}
	}
}

// 1.2: Log

func TestLogIsTheExponent(t *testing.T) {
	f := New()
	met := map[int]bool{}
	for a := 1; a < 256; a++ {
		n, ok := f.Log(byte(a))
		if !ok || n < 0 || n > 254 || met[n] {
			t.Errorf("Log(%d) = %d, %v", a, n, ok)
		}
		met[n] = true
		if slowPow(t, 2, n) != byte(a) || f.Exp(n) != byte(a) {
			t.Errorf("Log(%d) = %d, but 2 to that is %d, Exp %d", a, n, slowPow(t, 2, n), f.Exp(n))
		}
	}
	for a, want := range map[byte]int{1: 0, 2: 1, 128: 7, 29: 8, 142: 254} {
		if n, ok := f.Log(a); n != want || !ok {
			t.Errorf("Log(%d) = %d, %v, want %d", a, n, ok, want)
		}
	}
}

func TestLogOfNought(t *testing.T) {
	if n, ok := New().Log(0); n != 0 || ok {
		t.Errorf("Log(0) = %d, %v", n, ok)
	}
}

// 1.2: Exp

func TestExpIsThePowerOfTwo(t *testing.T) {
	f := New()
	for n := -600; n <= 600; n++ {
		if got, want := f.Exp(n), slowPow(t, 2, near(n)); got != want {
			t.Errorf("Exp(%d) = %d, want %d", n, got, want)
		}
	}
	for n, want := range map[int]byte{0: 1, 1: 2, 7: 128, 8: 29, 254: 142, 255: 1, -1: 142, -255: 1} {
		if got := f.Exp(n); got != want {
			t.Errorf("Exp(%d) = %d, want %d", n, got, want)
		}
	}
	if got := f.Exp(-1); slowMul(got, 2) != 1 {
		t.Errorf("Exp(-1) = %d, which doesn't make 1 with 2", got)
	}
}

func TestExpOfFarExponents(t *testing.T) {
	f := New()
	for _, n := range farExponents {
		if got, want := f.Exp(n), slowPow(t, 2, near(n)); got != want {
			t.Errorf("Exp(%d) = %d, want %d", n, got, want)
		}
	}
}

// 1.2: Dot

func TestDotIsTheSumOfProducts(t *testing.T) {
	f := New()
	for _, x := range []struct {
		a, b []byte
		want byte
	}{
		{nil, nil, 0},
		{[]byte{}, nil, 0},
		{nil, []byte{}, 0},
		{[]byte{2}, []byte{128}, 29},
		{[]byte{1, 2}, []byte{3, 4}, 3 ^ 8},
		{[]byte{7, 7}, []byte{9, 9}, 0},
		{[]byte{0, 0, 5}, []byte{9, 9, 0}, 0},
		{[]byte{1, 1, 1}, []byte{1, 2, 4}, 7},
	} {
		if got, ok := f.Dot(x.a, x.b); got != x.want || !ok {
			t.Errorf("Dot(%v, %v) = %d, %v, want %d", x.a, x.b, got, ok, x.want)
		}
	}
	var a, b []byte
	var want byte
	for i := range 1000 {
		a, b = append(a, byte(i*7+1)), append(b, byte(i*i+3))
		want ^= slowMul(a[i], b[i])
	}
	if got, ok := f.Dot(a, b); got != want || !ok {
		t.Errorf("Dot of 1000 places = %d, %v, want %d", got, ok, want)
	}
}

func TestDotOfALongerList(t *testing.T) {
	f := New()
	for _, x := range [][2][]byte{{{1}, nil}, {nil, {1}}, {{0}, {}}, {{1, 2, 3}, {1, 2}}, {{1, 2}, {1, 2, 3}}, {{1, 2}, {1, 2, 0}}} {
		if got, ok := f.Dot(x[0], x[1]); got != 0 || ok {
			t.Errorf("Dot(%v, %v) = %d, %v", x[0], x[1], got, ok)
		}
	}
}

func TestDotLeavesItsListsAsTheyAre(t *testing.T) {
	a, b := []byte{1, 2, 3, 4}, []byte{5, 6, 7, 8}
	New().Dot(a[:2], b[:2])
	New().Dot(a[:2], b[:3])
	if !bytes.Equal(a, []byte{1, 2, 3, 4}) || !bytes.Equal(b, []byte{5, 6, 7, 8}) {
		t.Errorf("Dot changed its lists to %v and %v", a, b)
	}
}

// 1.1 and 1.2: nil, which is no field

func TestNilIsNoField(t *testing.T) {
	var f *Field
	for _, a := range []byte{0, 1, 2, 255} {
		for _, n := range append(slices.Clone(farExponents), -1, 0, 1) {
			if f.Mul(a, 1) != 0 || f.Pow(a, n) != 0 || f.Exp(n) != 0 {
				t.Errorf("of nil: Mul(%d, 1) = %d, Pow(%d, %d) = %d, Exp(%d) = %d", a, f.Mul(a, 1), a, n, f.Pow(a, n), n, f.Exp(n))
			}
		}
		if got, ok := f.Div(a, 1); got != 0 || ok {
			t.Errorf("of nil: Div(%d, 1) = %d, %v", a, got, ok)
		}
		if got, ok := f.Log(a); got != 0 || ok {
			t.Errorf("of nil: Log(%d) = %d, %v", a, got, ok)
		}
	}
	for _, x := range [][2][]byte{{nil, nil}, {{1}, {1}}, {{1}, nil}} {
		if got, ok := f.Dot(x[0], x[1]); got != 0 || ok {
			t.Errorf("of nil: Dot(%v, %v) = %d, %v", x[0], x[1], got, ok)
		}
	}
	if got, ok := f.Div(0, 0); got != 0 || ok {
		t.Errorf("of nil: Div(0, 0) = %d, %v", got, ok)
	}
}

// 1.3

func TestLawsOfTwo(t *testing.T) {
	f := New()
	eachPair(func(a, b byte) {
		if Add(a, b) != Add(b, a) {
			t.Errorf("the sum of %d and %d hangs on their order", a, b)
		}
		if f.Mul(a, b) != f.Mul(b, a) {
			t.Errorf("the product of %d and %d hangs on their order", a, b)
		}
		if (f.Mul(a, b) == 0) != (a == 0 || b == 0) {
			t.Errorf("the product of %d and %d is %d", a, b, f.Mul(a, b))
		}
	})
}

func TestLawsOfThree(t *testing.T) {
	f := New()
	eachPair(func(a, b byte) {
		for i := range 256 {
			c := byte(i)
			if Add(Add(a, b), c) != Add(a, Add(b, c)) {
				t.Fatalf("the sum of %d, %d, %d hangs on which are added first", a, b, c)
			}
			if f.Mul(f.Mul(a, b), c) != f.Mul(a, f.Mul(b, c)) {
				t.Fatalf("the product of %d, %d, %d hangs on which are multiplied first", a, b, c)
			}
			if f.Mul(a, Add(b, c)) != Add(f.Mul(a, b), f.Mul(a, c)) {
				t.Fatalf("%d isn't spread over the sum of %d and %d", a, b, c)
			}
		}
	})
}

func TestNeutralsAndInverses(t *testing.T) {
	f := New()
	for i := range 256 {
		a := byte(i)
		if Add(a, 0) != a || f.Mul(a, 1) != a || f.Mul(a, 0) != 0 {
			t.Errorf("of %d: with 0 and 1: %d, %d, %d", a, Add(a, 0), f.Mul(a, 1), f.Mul(a, 0))
		}
		if Add(a, a) != 0 {
			t.Errorf("%d isn't its own negative", a)
		}
		if a == 0 {
			continue
		}
		if inverse, ok := f.Div(1, a); !ok || f.Mul(a, inverse) != 1 {
			t.Errorf("%d has no inverse: %d, %v", a, inverse, ok)
		}
	}
}
