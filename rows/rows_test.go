package rows

import (
	"math"
	"slices"
	"testing"

	"stook/api"
	"stook/gf"
)

// chance is a row of numbers that looks like chance and is the same each time.
type chance uint32

func (c *chance) below(n int) int {
	*c = *c*1664525 + 1013904223
	return int(*c>>16) % n
}

// table is n rows of k bytes of chance.
func (c *chance) table(n, k int) [][]byte {
	a := make([][]byte, n)
	for i := range a {
		a[i] = make([]byte, k)
		for j := range a[i] {
			a[i][j] = byte(c.below(256))
		}
	}
	return a
}

// order is the numbers from 0 to n - 1, mixed.
func (c *chance) order(n int) []int {
	l := make([]int, n)
	for i := range l {
		j := c.below(i + 1)
		l[i], l[j] = l[j], i
	}
	return l
}

func filled(n, k int, x byte) [][]byte {
	a := make([][]byte, n)
	for i := range a {
		a[i] = slices.Repeat([]byte{x}, k)
	}
	return a
}

func alike(a, b [][]byte) bool {
	return slices.EqualFunc(a, b, func(x, y []byte) bool { return slices.Equal(x, y) })
}

func clone(a [][]byte) [][]byte {
	b := make([][]byte, len(a))
	for i := range a {
		b[i] = slices.Clone(a[i])
	}
	return b
}

// slowOne is the one as the chapter defines it, of any n.
func slowOne(n int) [][]byte {
	a := filled(n, n, 0)
	for i := range a {
		for j := range a[i] {
			if i == j {
				a[i][j] = 1
			}
		}
	}
	return a
}

// slowMul is the product by three loops.
func slowMul(a, b [][]byte) [][]byte {
	f := gf.New()
	c := filled(len(a), len(b[0]), 0)
	for i := range a {
		for j := range b[0] {
			for l := range b {
				c[i][j] ^= f.Mul(a[i][l], b[l][j])
			}
		}
	}
	return c
}

// determinant is worked out along the first row; signs need no heed, as a byte is its own negative.
func determinant(f *gf.Field, a [][]byte) byte {
	if len(a) == 1 {
		return a[0][0]
	}
	var sum byte
	for j, x := range a[0] {
		var less [][]byte
		for _, row := range a[1:] {
			less = append(less, slices.Delete(slices.Clone(row), j, j+1))
		}
		sum ^= f.Mul(x, determinant(f, less))
	}
	return sum
}

// notRight are rows that are not right, each in its own way.
func notRight() [][][]byte {
	return [][][]byte{
		nil,
		{},
		{nil},
		{{}},
		{{}, {}},
		{nil, {1}},
		{{1}, nil},
		{{1}, {}},
		{{1, 2}, {3}},
		{{1}, {2, 3}},
		{{1, 2}, {3, 4}, {5}},
		{{1, 2}, {3}, {5, 6}},
		{{1, 2}, {3, 4, 5}},
		filled(33, 1, 1),
		filled(1, 33, 1),
		filled(33, 33, 1),
		filled(33, 32, 1),
		filled(32, 33, 1),
		filled(33, 0, 1),
		append(filled(31, 32, 1), make([]byte, 31)),
		append(filled(31, 32, 1), make([]byte, 33)),
		filled(1000, 1000, 1),
	}
}

// notSizes are numbers that rows may not have.
func notSizes() []int {
	return []int{0, -1, -32, 33, 34, 64, 256, 257, 1 << 32, 1<<32 + 1, math.MaxInt, math.MaxInt - 1, math.MinInt, math.MinInt + 1}
}

// 2.1: Right

func TestRightOfAllSizes(t *testing.T) {
	for n := 1; n <= 34; n++ {
		for k := 0; k <= 34; k++ {
			want := n <= 32 && k >= 1 && k <= 32
			if got := Right(filled(n, k, 7)); got != want {
				t.Errorf("Right of %d rows of %d bytes = %v", n, k, got)
			}
		}
	}
}

func TestRightOfRowsThatAreNot(t *testing.T) {
	for _, a := range notRight() {
		if Right(a) {
			t.Errorf("Right(%v)", a)
		}
	}
}

func TestRightOfOneRowThatIsNotAsLong(t *testing.T) {
	for at := range 32 {
		for _, k := range []int{0, 1, 31, 33} {
			a := filled(32, 32, 1)
			a[at] = make([]byte, k)
			if Right(a) {
				t.Errorf("Right of 32 rows of 32 bytes, but for %d in the row %d", k, at)
			}
		}
	}
}

func TestRightDoesNotLookAtSpareRoom(t *testing.T) {
	a := make([][]byte, 2, 64)
	a[0], a[1] = make([]byte, 2, 64), make([]byte, 2)
	if !Right(a) {
		t.Errorf("rows with spare room aren't right")
	}
}

// 2.1: One

func TestOneOfAllSizes(t *testing.T) {
	for n := 1; n <= 32; n++ {
		if got, ok := One(n); !ok || !alike(got, slowOne(n)) {
			t.Errorf("One(%d) = %v, %v", n, got, ok)
		}
	}
	if got, ok := One(2); !ok || !alike(got, [][]byte{{1, 0}, {0, 1}}) {
		t.Errorf("One(2) = %v, %v", got, ok)
	}
}

func TestOneOfNumbersThatMayNotBe(t *testing.T) {
	for _, n := range notSizes() {
		if got, ok := One(n); ok || len(got) != 0 {
			t.Errorf("One(%d) = %v, %v", n, got, ok)
		}
	}
}

// 2.1: Mul

func TestMulOfKnownRows(t *testing.T) {
	for _, x := range []struct{ a, b, want [][]byte }{
		{[][]byte{{2}}, [][]byte{{128}}, [][]byte{{29}}},
		{[][]byte{{0}}, [][]byte{{128}}, [][]byte{{0}}},
		{[][]byte{{1, 1}}, [][]byte{{5}, {6}}, [][]byte{{3}}},
		{[][]byte{{5}, {6}}, [][]byte{{1, 2}}, [][]byte{{5, 10}, {6, 12}}},
		{[][]byte{{1, 2}, {3, 4}}, [][]byte{{5, 6}, {7, 8}}, [][]byte{{5 ^ 14, 6 ^ 16}, {15 ^ 28, 10 ^ 32}}},
		{[][]byte{{1, 2, 3}}, [][]byte{{1, 0}, {0, 1}, {1, 1}}, [][]byte{{2, 1}}},
	} {
		if got, e := Mul(x.a, x.b); e != api.OK || !alike(got, x.want) {
			t.Errorf("Mul(%v, %v) = %v, %d, want %v", x.a, x.b, got, e, x.want)
		}
	}
}

func TestMulIsTheSumOfProducts(t *testing.T) {
	var c chance
	sizes := []int{1, 2, 3, 5, 16, 31, 32}
	for _, n := range sizes {
		for _, k := range sizes {
			for _, m := range sizes {
				a, b := c.table(n, k), c.table(k, m)
				if got, e := Mul(a, b); e != api.OK || !alike(got, slowMul(a, b)) {
					t.Errorf("Mul of %d by %d and %d by %d = %v, %d", n, k, k, m, got, e)
				}
			}
		}
	}
}

func TestMulOfRowsThatAreNotRight(t *testing.T) {
	for _, a := range notRight() {
		for _, b := range append(notRight(), filled(1, 1, 1), filled(2, 2, 1), filled(32, 32, 1)) {
			if got, e := Mul(a, b); e != api.ErrArg || len(got) != 0 {
				t.Errorf("Mul(%v, %v) = %v, %d", a, b, got, e)
			}
			if got, e := Mul(b, a); e != api.ErrArg || len(got) != 0 {
				t.Errorf("Mul(%v, %v) = %v, %d", b, a, got, e)
			}
		}
	}
	// The first row alone fits: what is wrong stands behind it.
	if got, e := Mul([][]byte{{1, 2}, {3}}, filled(2, 2, 1)); e != api.ErrArg || len(got) != 0 {
		t.Errorf("Mul of a short row = %v, %d", got, e)
	}
	if got, e := Mul(filled(1, 33, 1), filled(33, 1, 1)); e != api.ErrArg || len(got) != 0 {
		t.Errorf("Mul of 33 bytes and 33 rows = %v, %d", got, e)
	}
	if got, e := Mul(filled(33, 2, 1), filled(2, 2, 1)); e != api.ErrArg || len(got) != 0 {
		t.Errorf("Mul of 33 rows = %v, %d", got, e)
	}
}

func TestMulOfRowsThatDoNotMeet(t *testing.T) {
	sizes := []int{1, 2, 3, 31, 32}
	for _, k := range sizes {
		for _, l := range sizes {
			if k == l {
				continue
			}
			// k by l and k by l again: as many rows, and as long, but they don't meet.
			if got, e := Mul(filled(k, l, 1), filled(k, l, 1)); e != api.ErrArg || len(got) != 0 {
				t.Errorf("Mul of %d by %d and the same = %v, %d", k, l, got, e)
			}
			if got, e := Mul(filled(2, k, 1), filled(l, 2, 1)); e != api.ErrArg || len(got) != 0 {
				t.Errorf("Mul of 2 by %d and %d by 2 = %v, %d", k, l, got, e)
			}
		}
	}
}

// 2.1: Pick

func TestPickOfKnownRows(t *testing.T) {
	a := [][]byte{{1, 2}, {3, 4}, {5, 6}}
	for _, x := range []struct {
		l    []int
		want [][]byte
	}{
		{[]int{0}, [][]byte{{1, 2}}},
		{[]int{2}, [][]byte{{5, 6}}},
		{[]int{0, 1, 2}, a},
		{[]int{2, 0, 1}, [][]byte{{5, 6}, {1, 2}, {3, 4}}},
		{[]int{2, 0, 2}, [][]byte{{5, 6}, {1, 2}, {5, 6}}},
		{[]int{1, 1, 1, 1, 1}, [][]byte{{3, 4}, {3, 4}, {3, 4}, {3, 4}, {3, 4}}},
	} {
		if got, e := Pick(a, x.l); e != api.OK || !alike(got, x.want) {
			t.Errorf("Pick(%v) = %v, %d, want %v", x.l, got, e, x.want)
		}
	}
}

func TestPickOfAllSizes(t *testing.T) {
	var c chance
	for n := 1; n <= 32; n++ {
		for _, count := range []int{1, 2, 31, 32} {
			a := c.table(n, 1+c.below(32))
			l := make([]int, count)
			var want [][]byte
			for i := range l {
				l[i] = c.below(n)
				want = append(want, a[l[i]])
			}
			if got, e := Pick(a, l); e != api.OK || !alike(got, want) {
				t.Errorf("Pick of %d rows, %v = %v, %d", n, l, got, e)
			}
		}
	}
}

func TestPickOfWrongNumbers(t *testing.T) {
	a := [][]byte{{1, 2}, {3, 4}, {5, 6}}
	for _, l := range [][]int{
		nil, {}, {3}, {-1}, {0, 3}, {3, 0}, {0, -1}, {0, 1, 2, 3}, {0, 32, 1}, {0, 256}, {1 << 32},
		{math.MaxInt}, {math.MinInt}, {0, math.MinInt}, make([]int, 33), make([]int, 1000),
		append(make([]int, 31), 3), append(make([]int, 31), -1),
	} {
		if got, e := Pick(a, l); e != api.ErrArg || len(got) != 0 {
			t.Errorf("Pick(%v) = %v, %d", l, got, e)
		}
	}
	for n := 1; n <= 32; n++ {
		if got, e := Pick(filled(n, 1, 1), []int{n}); e != api.ErrArg || len(got) != 0 {
			t.Errorf("Pick of %d rows, %d = %v, %d", n, n, got, e)
		}
	}
}

func TestPickOfRowsThatAreNotRight(t *testing.T) {
	for _, a := range notRight() {
		for _, l := range [][]int{nil, {0}, {0, 0}, {1}, {-1}, make([]int, 33)} {
			if got, e := Pick(a, l); e != api.ErrArg || len(got) != 0 {
				t.Errorf("Pick(%v, %v) = %v, %d", a, l, got, e)
			}
		}
	}
}

// 2.2: Powers

func TestPowersOfKnownSizes(t *testing.T) {
	for _, x := range []struct {
		n, k int
		want [][]byte
	}{
		{1, 1, [][]byte{{1}}},
		{1, 4, [][]byte{{1, 0, 0, 0}}},
		{4, 1, [][]byte{{1}, {1}, {1}, {1}}},
		{3, 3, [][]byte{{1, 0, 0}, {1, 1, 1}, {1, 2, 4}}},
		{5, 4, [][]byte{{1, 0, 0, 0}, {1, 1, 1, 1}, {1, 2, 4, 8}, {1, 3, 5, 15}, {1, 4, 16, 64}}},
	} {
		if got, ok := Powers(x.n, x.k); !ok || !alike(got, x.want) {
			t.Errorf("Powers(%d, %d) = %v, %v, want %v", x.n, x.k, got, ok, x.want)
		}
	}
	if got, ok := Powers(3, 9); !ok || got[2][8] != 29 {
		t.Errorf("Powers(3, 9) = %v, %v", got, ok)
	}
}

func TestPowersOfAllSizes(t *testing.T) {
	f := gf.New()
	for n := 1; n <= 32; n++ {
		for k := 1; k <= 32; k++ {
			want := filled(n, k, 1)
			for i := range want {
				for j := 1; j < k; j++ {
					want[i][j] = f.Mul(want[i][j-1], byte(i))
				}
			}
			if got, ok := Powers(n, k); !ok || !alike(got, want) {
				t.Errorf("Powers(%d, %d) = %v, %v", n, k, got, ok)
			}
		}
	}
}

func TestPowersOfNumbersThatMayNotBe(t *testing.T) {
	for _, n := range notSizes() {
		for _, k := range append(notSizes(), 1, 2, 32) {
			if got, ok := Powers(n, k); ok || len(got) != 0 {
				t.Errorf("Powers(%d, %d) = %v, %v", n, k, got, ok)
			}
			if got, ok := Powers(k, n); ok || len(got) != 0 {
				t.Errorf("Powers(%d, %d) = %v, %v", k, n, got, ok)
			}
		}
	}
}

// 2.2: Undo

// undoes fails the test unless undone undoes a from both sides.
func undoes(t *testing.T, a, undone [][]byte) {
	t.Helper()
	one := slowOne(len(a))
	if !Right(undone) || len(undone) != len(a) || len(undone[0]) != len(a) {
		t.Errorf("what undoes %v is %v", a, undone)
		return
	}
	if !alike(slowMul(a, undone), one) || !alike(slowMul(undone, a), one) {
		t.Errorf("%v doesn't undo %v", undone, a)
	}
}

func TestUndoOfKnownRows(t *testing.T) {
	for _, x := range []struct{ a, want [][]byte }{
		{[][]byte{{1}}, [][]byte{{1}}},
		{[][]byte{{2}}, [][]byte{{142}}},
		{[][]byte{{0, 1}, {1, 0}}, [][]byte{{0, 1}, {1, 0}}},
		{[][]byte{{1, 1}, {0, 1}}, [][]byte{{1, 1}, {0, 1}}},
		{[][]byte{{1, 0}, {2, 1}}, [][]byte{{1, 0}, {2, 1}}},
		{[][]byte{{0, 1, 0}, {0, 0, 1}, {1, 0, 0}}, [][]byte{{0, 0, 1}, {1, 0, 0}, {0, 1, 0}}},
	} {
		if got, e := Undo(x.a); e != api.OK || !alike(got, x.want) {
			t.Errorf("Undo(%v) = %v, %d, want %v", x.a, got, e, x.want)
		}
	}
}

func TestUndoOfTheExample(t *testing.T) {
	a := [][]byte{{1, 1}, {1, 2}}
	undone, e := Undo(a)
	if e != api.OK {
		t.Fatalf("Undo(%v) = %v, %d", a, undone, e)
	}
	if got, e := Mul(undone, a); e != api.OK || !alike(got, [][]byte{{1, 0}, {0, 1}}) {
		t.Errorf("the product is %v, %d", got, e)
	}
}

func TestUndoOfOneByte(t *testing.T) {
	for x := 1; x < 256; x++ {
		a := [][]byte{{byte(x)}}
		undone, e := Undo(a)
		if e != api.OK {
			t.Fatalf("Undo(%v) = %v, %d", a, undone, e)
		}
		undoes(t, a, undone)
	}
	if got, e := Undo([][]byte{{0}}); e != api.ErrSing || len(got) != 0 {
		t.Errorf("Undo of 0 = %v, %d", got, e)
	}
}

// byDeterminant fails the test unless Undo answers as the determinant says.
func byDeterminant(t *testing.T, f *gf.Field, a [][]byte) {
	t.Helper()
	undone, e := Undo(a)
	if determinant(f, a) == 0 {
		if e != api.ErrSing || len(undone) != 0 {
			t.Errorf("Undo(%v) = %v, %d", a, undone, e)
		}
		return
	}
	if e != api.OK {
		t.Errorf("Undo(%v) = %v, %d", a, undone, e)
		return
	}
	undoes(t, a, undone)
}

// eachTable calls what is to be done with all n by n tables of these bytes.
func eachTable(n int, of []byte, do func([][]byte)) {
	count := 1
	for range n * n {
		count *= len(of)
	}
	for number := range count {
		a := filled(n, n, 0)
		for place := range n * n {
			a[place/n][place%n] = of[number%len(of)]
			number /= len(of)
		}
		do(a)
	}
}

func TestUndoIsAsTheDeterminantSays(t *testing.T) {
	f := gf.New()
	eachTable(2, []byte{0, 1, 2, 3, 29, 128, 255}, func(a [][]byte) { byDeterminant(t, f, a) })
	eachTable(3, []byte{0, 1, 2}, func(a [][]byte) { byDeterminant(t, f, a) })
	eachTable(4, []byte{0, 1}, func(a [][]byte) { byDeterminant(t, f, a) })
}

func TestUndoOfRowsOfChance(t *testing.T) {
	var c chance
	f := gf.New()
	for range 300 {
		n := 2 + c.below(4)
		byDeterminant(t, f, c.table(n, n))
	}
}

func TestUndoOfAllSizes(t *testing.T) {
	var c chance
	f := gf.New()
	for n := 1; n <= 32; n++ {
		// The rows of the one, mixed, each times a byte, then added to each other: they can be undone, and want swapping.
		a := filled(n, n, 0)
		for i, j := range c.order(n) {
			a[i][j] = byte(1 + c.below(255))
		}
		for range 3 * n {
			from, to, times := c.below(n), c.below(n), byte(c.below(256))
			for j := 0; from != to && j < n; j++ {
				a[to][j] ^= f.Mul(times, a[from][j])
			}
		}
		undone, e := Undo(a)
		if e != api.OK {
			t.Errorf("Undo of %d rows = %v, %d", n, undone, e)
			continue
		}
		undoes(t, a, undone)
	}
}

func TestUndoOfMixedRowsOfTheOne(t *testing.T) {
	var c chance
	for n := 1; n <= 32; n++ {
		back, mixed := filled(n, n, 0), filled(n, n, 0)
		for i, j := range c.order(n) {
			back[i][n-1-i], mixed[i][j] = 1, 1
		}
		for _, a := range [][][]byte{slowOne(n), back, mixed} {
			undone, e := Undo(a)
			if e != api.OK {
				t.Errorf("Undo(%v) = %v, %d", a, undone, e)
				continue
			}
			undoes(t, a, undone)
		}
	}
}

func TestUndoOfRowsThatHangOnEachOther(t *testing.T) {
	for _, a := range [][][]byte{
		{{0}},
		{{0, 0}, {0, 0}},
		{{1, 2}, {2, 4}},
		{{1, 2}, {1, 2}},
		{{1, 2}, {0, 0}},
		{{0, 1}, {0, 2}},
		{{1, 0}, {2, 0}},
		{{128, 1}, {29, 2}},
		{{1, 0, 1}, {0, 1, 1}, {1, 1, 0}},
		{{1, 2, 3}, {4, 5, 6}, {5, 7, 5}},
		filled(32, 32, 0),
		filled(32, 32, 1),
	} {
		if got, e := Undo(a); e != api.ErrSing || len(got) != 0 {
			t.Errorf("Undo(%v) = %v, %d", a, got, e)
		}
	}
}

func TestUndoOfOneRowThatHangsOnTheOthers(t *testing.T) {
	var c chance
	f := gf.New()
	for n := 2; n <= 32; n++ {
		for range 5 {
			a := c.table(n, n)
			at := c.below(n)
			a[at] = make([]byte, n)
			for i := range a {
				times := byte(c.below(256))
				for j := 0; i != at && j < n; j++ {
					a[at][j] ^= f.Mul(times, a[i][j])
				}
			}
			if got, e := Undo(a); e != api.ErrSing || len(got) != 0 {
				t.Errorf("Undo of %d rows, the row %d made of the others = %v, %d", n, at, got, e)
			}
		}
	}
}

func TestUndoOfAColumnOfNoughts(t *testing.T) {
	for n := 1; n <= 32; n++ {
		for at := range n {
			a := slowOne(n)
			a[at][at] = 0
			if got, e := Undo(a); e != api.ErrSing || len(got) != 0 {
				t.Errorf("Undo of the one of %d without its row %d = %v, %d", n, at, got, e)
			}
		}
	}
}

func TestUndoOfRowsThatAreNotRightOrNotSquare(t *testing.T) {
	for _, a := range append(notRight(), filled(1, 2, 0), filled(2, 1, 0), [][]byte{{1, 2}}, [][]byte{{1}, {2}},
		[][]byte{{1, 0, 0}, {0, 1, 0}}, filled(31, 32, 1), filled(32, 31, 1), filled(1, 32, 1), filled(32, 1, 1), slowOne(33)) {
		if got, e := Undo(a); e != api.ErrArg || len(got) != 0 {
			t.Errorf("Undo(%v) = %v, %d", a, got, e)
		}
	}
}

// 2.3

func mustMul(t *testing.T, a, b [][]byte) [][]byte {
	t.Helper()
	c, e := Mul(a, b)
	if e != api.OK {
		t.Fatalf("Mul(%v, %v) = %v, %d", a, b, c, e)
	}
	return c
}

func mustOne(t *testing.T, n int) [][]byte {
	t.Helper()
	one, ok := One(n)
	if !ok {
		t.Fatalf("One(%d) = %v, %v", n, one, ok)
	}
	return one
}

func TestTheProductWithTheOneIsAsItWas(t *testing.T) {
	var c chance
	for n := 1; n <= 32; n++ {
		for _, k := range []int{1, 2, 17, 31, 32} {
			a := c.table(n, k)
			if !alike(mustMul(t, mustOne(t, n), a), a) || !alike(mustMul(t, a, mustOne(t, k)), a) {
				t.Errorf("the product of %v with the one is another", a)
			}
		}
	}
}

func TestWhatUndoesUndoesFromBothSides(t *testing.T) {
	var c chance
	for n := 1; n <= 32; n++ {
		a := c.table(n, n)
		undone, e := Undo(a)
		if e == api.ErrSing {
			continue
		}
		if e != api.OK {
			t.Fatalf("Undo of %d rows = %d", n, e)
		}
		one := mustOne(t, n)
		if !alike(mustMul(t, a, undone), one) || !alike(mustMul(t, undone, a), one) {
			t.Errorf("%v doesn't undo %v", undone, a)
		}
		if again, e := Undo(undone); e != api.OK || !alike(again, a) {
			t.Errorf("what undoes what undoes %v is %v, %d", a, again, e)
		}
	}
}

func TestProductsInAnyOrderOfTheirBrackets(t *testing.T) {
	var c chance
	sizes := []int{1, 2, 7, 32}
	for _, n := range sizes {
		for _, k := range sizes {
			for _, l := range sizes {
				for _, m := range sizes {
					x, y, z := c.table(n, k), c.table(k, l), c.table(l, m)
					if !alike(mustMul(t, mustMul(t, x, y), z), mustMul(t, x, mustMul(t, y, z))) {
						t.Errorf("the product of %d by %d by %d by %d hangs on its brackets", n, k, l, m)
					}
				}
			}
		}
	}
}

// canBeUndone fails the test unless these rows of powers can be.
func canBeUndone(t *testing.T, powers [][]byte, l []int) {
	t.Helper()
	picked, e := Pick(powers, l)
	if e != api.OK {
		t.Fatalf("Pick(%v) = %d", l, e)
	}
	undone, e := Undo(picked)
	if e != api.OK {
		t.Errorf("the rows %v of %d powers can't be undone: %d", l, len(powers), e)
		return
	}
	undoes(t, picked, undone)
}

func TestAnyRowsOfPowersCanBeUndone(t *testing.T) {
	const n = 10
	for set := 1; set < 1<<n; set++ {
		var l []int
		for i := range n {
			if set>>i&1 == 1 {
				l = append(l, i)
			}
		}
		powers, ok := Powers(n, len(l))
		if !ok {
			t.Fatalf("Powers(%d, %d) = false", n, len(l))
		}
		canBeUndone(t, powers, l)
		slices.Reverse(l)
		canBeUndone(t, powers, l)
	}
}

func TestAnyRowsOfManyPowersCanBeUndone(t *testing.T) {
	var c chance
	for n := 11; n <= 32; n++ {
		for k := 1; k <= n; k++ {
			powers, ok := Powers(n, k)
			if !ok {
				t.Fatalf("Powers(%d, %d) = false", n, k)
			}
			canBeUndone(t, powers, c.order(n)[:k])
		}
	}
}

func TestRowsOfPowersThatAreAlikeCannotBeUndone(t *testing.T) {
	powers, _ := Powers(4, 3)
	picked, e := Pick(powers, []int{3, 1, 3})
	if e != api.OK {
		t.Fatalf("Pick = %d", e)
	}
	if got, e := Undo(picked); e != api.ErrSing || len(got) != 0 {
		t.Errorf("Undo(%v) = %v, %d", picked, got, e)
	}
}

// Rules that hold everywhere: what is handed in isn't changed, what is handed out is new memory.

// roomy is rows with spare room, behind each and behind all, that holds marks.
func roomy(a [][]byte) [][]byte {
	all := make([][]byte, 0, len(a)+3)
	for _, row := range a {
		all = append(all, append(slices.Clone(row), 201, 202, 203)[:len(row)])
	}
	return append(all, []byte{211}, []byte{212}, []byte{213})[:len(a)]
}

// marked tells whether roomy rows are a still, their marks included.
func marked(rows, a [][]byte) bool {
	for _, row := range rows {
		if !slices.Equal(row[len(row):len(row)+3], []byte{201, 202, 203}) {
			return false
		}
	}
	return alike(rows, a) && alike(rows[len(a):len(a)+3], [][]byte{{211}, {212}, {213}})
}

// scribble writes into all of a list of rows, spare room included.
func scribble(a [][]byte) {
	a = a[:cap(a)]
	for i, row := range a {
		row = row[:cap(row)]
		for j := range row {
			row[j] = 99
		}
		a[i] = nil
	}
}

func TestWhatIsHandedInIsNotChanged(t *testing.T) {
	for _, a := range [][][]byte{
		{{0, 1, 2}, {1, 0, 0}, {1, 1, 0}},
		{{1, 2, 3}, {2, 4, 6}, {0, 0, 1}},
		{{7, 8}, {9, 10}},
		{{1, 2}},
		{{1, 2}, {3}},
	} {
		x, y := roomy(a), roomy(a)
		l := append([]int{1, 0, 1}, 77, 88, 99)
		Right(x)
		Mul(x, y)
		Pick(x, l[:3])
		Undo(x)
		if !marked(x, a) || !marked(y, a) {
			t.Errorf("%v became %v and %v", a, x, y)
		}
		if !slices.Equal(l, []int{1, 0, 1, 77, 88, 99}) {
			t.Errorf("the numbers became %v", l)
		}
	}
}

func TestWhatIsHandedOutIsNewMemory(t *testing.T) {
	a := [][]byte{{0, 1, 2}, {1, 0, 0}, {1, 1, 0}}
	l := []int{2, 2, 0}
	calls := map[string]func() [][]byte{
		"One":    func() [][]byte { x, _ := One(3); return x },
		"Mul":    func() [][]byte { x, _ := Mul(a, a); return x },
		"Pick":   func() [][]byte { x, _ := Pick(a, l); return x },
		"Powers": func() [][]byte { x, _ := Powers(3, 3); return x },
		"Undo":   func() [][]byte { x, _ := Undo(a); return x },
	}
	before := clone(a)
	for name, call := range calls {
		first, second := call(), call()
		want := clone(second)
		if len(want) != 3 || !alike(first, want) {
			t.Errorf("%s answered %v, then %v", name, first, second)
		}
		scribble(first)
		if !alike(second, want) || !alike(call(), want) {
			t.Errorf("%s: what is written into an answer is seen in another one", name)
		}
		scribble(second[:1:1])
		if !alike(second[1:], want[1:]) {
			t.Errorf("%s: what is written into a row is seen in another one", name)
		}
		if !alike(a, before) || !slices.Equal(l, []int{2, 2, 0}) {
			t.Errorf("%s: what is written into an answer is seen in the argument", name)
		}
	}
}

func TestAnAnswerDoesNotFollowItsArgument(t *testing.T) {
	a := [][]byte{{0, 1, 2}, {1, 0, 0}, {1, 1, 0}}
	product, _ := Mul(a, a)
	picked, _ := Pick(a, []int{0, 1, 2})
	undone, _ := Undo(a)
	wantProduct, wantPicked, wantUndone := clone(product), clone(picked), clone(undone)
	scribble(a)
	if !alike(product, wantProduct) || !alike(picked, wantPicked) || !alike(undone, wantUndone) {
		t.Errorf("what is written into an argument is seen in an answer")
	}
}

func TestOneRowThatStandsTwice(t *testing.T) {
	row := []byte{1, 2}
	a := [][]byte{row, row}
	if got, e := Undo(a); e != api.ErrSing || len(got) != 0 {
		t.Errorf("Undo = %v, %d", got, e)
	}
	if got, e := Mul(a, a); e != api.OK || !alike(got, [][]byte{{3, 6}, {3, 6}}) {
		t.Errorf("Mul = %v, %d", got, e)
	}
	if !slices.Equal(row, []byte{1, 2}) {
		t.Errorf("the row became %v", row)
	}
}
