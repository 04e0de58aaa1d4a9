package coder

import (
	"math"
	"slices"
	"strings"
	"testing"

	"stook/api"
	"stook/gf"
	"stook/rows"
)

// chance is a row of numbers that looks like chance and is the same each time.
type chance uint32

func (c *chance) below(n int) int {
	*c = *c*1664525 + 1013904223
	return int(*c>>16) % n
}

// texts is k texts of chance, of so many bytes.
func (c *chance) texts(k, size int) []string {
	l := make([]string, k)
	for i := range l {
		text := make([]byte, size)
		for j := range text {
			text[j] = byte(c.below(256))
		}
		l[i] = string(text)
	}
	return l
}

// order is the numbers from 0 to n - 1, mixed.
func (c *chance) order(n int) []int {
	l := make([]int, n)
	for i := range l {
		j := c.below(i + 1)
		l[i], l[j] = l[j], i
	}
	return l
}

// slowMul is the product of two bytes, bit by bit.
func slowMul(a, b byte) byte {
	product := 0
	for i := range 8 {
		if b>>i&1 == 1 {
			product ^= int(a) << i
		}
	}
	for i := 14; i >= 8; i-- {
		if product>>i&1 == 1 {
			product ^= 0x11d << (i - 8)
		}
	}
	return byte(product)
}

// slowInverse is what makes 1 with a byte other than 0.
func slowInverse(a byte) byte {
	for b := range 256 {
		if slowMul(a, byte(b)) == 1 {
			return byte(b)
		}
	}
	return 0
}

// slowWeight is what the j-th text counts in the piece at. The rows are powers of their numbers, so a piece is what the one polynomial of less than k-th degree that has the texts' bytes at 0 to k - 1 has at its number; there the j-th counts by Lagrange's rule.
func slowWeight(k, at, j int) byte {
	weight := byte(1)
	for m := range k {
		if m != j {
			weight = slowMul(weight, slowMul(byte(at^m), slowInverse(byte(j^m))))
		}
	}
	return weight
}

// slowPieces is the pieces of texts, by polynomials.
func slowPieces(n int, l []string) []string {
	pieces := make([]string, n)
	for at := range pieces {
		piece := make([]byte, len(l[0]))
		for j, text := range l {
			weight := slowWeight(len(l), at, j)
			for place := range piece {
				piece[place] ^= slowMul(weight, text[place])
			}
		}
		pieces[at] = string(piece)
	}
	return pieces
}

// eachCode calls what is to be done with all codes that there are.
func eachCode(t *testing.T, do func(c *Coder, k, n int)) {
	t.Helper()
	for n := 1; n <= 16; n++ {
		for k := 1; k <= n; k++ {
			do(mustNew(t, k, n), k, n)
		}
	}
}

func mustNew(t *testing.T, k, n int) *Coder {
	t.Helper()
	c, e := New(k, n)
	if e != api.OK || c == nil {
		t.Fatalf("New(%d, %d) = %v, %d", k, n, c, e)
	}
	return c
}

func mustMake(t *testing.T, c *Coder, l []string) []string {
	t.Helper()
	pieces, e := c.Make(l)
	if e != api.OK {
		t.Fatalf("Make(%q) = %q, %d", l, pieces, e)
	}
	return pieces
}

// pick is the pieces with these numbers, in their order.
func pick(pieces []string, numbers []int) []Piece {
	l := make([]Piece, len(numbers))
	for i, at := range numbers {
		l[i] = Piece{At: at, Text: pieces[at]}
	}
	return l
}

// bitsOf is the numbers of the bits that are set.
func bitsOf(set int) []int {
	var l []int
	for i := 0; set>>i > 0; i++ {
		if set>>i&1 == 1 {
			l = append(l, i)
		}
	}
	return l
}

func readsAs(t *testing.T, c *Coder, l []Piece, want []string) {
	t.Helper()
	if got, e := c.Read(l); e != api.OK || !slices.Equal(got, want) {
		t.Errorf("Read(%#v) = %q, %d, want %q", l, got, e, want)
	}
}

func readFails(t *testing.T, c *Coder, l []Piece, want api.Errno) {
	t.Helper()
	if got, e := c.Read(l); e != want || len(got) != 0 {
		t.Errorf("Read(%#v) = %q, %d, want %d", l, got, e, want)
	}
}

func againFails(t *testing.T, c *Coder, l []Piece, at int, want api.Errno) {
	t.Helper()
	if got, e := c.Again(l, at); e != want || got != "" {
		t.Errorf("Again(%#v, %d) = %q, %d, want %d", l, at, got, e, want)
	}
}

func makeFails(t *testing.T, c *Coder, l []string) {
	t.Helper()
	if got, e := c.Make(l); e != api.ErrArg || len(got) != 0 {
		t.Errorf("Make(%q) = %q, %d", l, got, e)
	}
}

// notNumbers are numbers that no piece of n has.
func notNumbers(n int) []int {
	return []int{-1, -2, -n, n, n + 1, 2 * n, 16, 17, 32, 256, 1 << 32, 1<<32 + 1, -1 << 32, math.MaxInt, math.MaxInt - 1, math.MinInt, math.MinInt + 1}
}

// 3.1: New, Sizes

func TestNewOfAllSizes(t *testing.T) {
	for k := -2; k <= 35; k++ {
		for n := -2; n <= 35; n++ {
			c, e := New(k, n)
			if k >= 1 && k <= n && n <= 16 {
				if e != api.OK || c == nil {
					t.Errorf("New(%d, %d) = %v, %d", k, n, c, e)
					continue
				}
				if a, b := c.Sizes(); a != k || b != n {
					t.Errorf("Sizes of %d of %d = %d, %d", k, n, a, b)
				}
			} else if e != api.ErrArg || c != nil {
				t.Errorf("New(%d, %d) = %v, %d", k, n, c, e)
			}
		}
	}
}

func TestNewOfNumbersFarOut(t *testing.T) {
	far := []int{math.MinInt, math.MinInt + 1, -1 << 32, -256, 0, 17, 256, 257, 1 << 32, 1<<32 + 1, math.MaxInt - 1, math.MaxInt}
	for _, k := range append(slices.Clone(far), 1, 2, 16) {
		for _, n := range far {
			if c, e := New(k, n); e != api.ErrArg || c != nil {
				t.Errorf("New(%d, %d) = %v, %d", k, n, c, e)
			}
		}
	}
	for _, k := range far {
		for _, n := range []int{1, 2, 16} {
			if c, e := New(k, n); e != api.ErrArg || c != nil {
				t.Errorf("New(%d, %d) = %v, %d", k, n, c, e)
			}
		}
	}
}

// 3.1: Make

func TestMakeOfKnownTexts(t *testing.T) {
	for _, x := range []struct {
		k, n    int
		l, want []string
	}{
		{1, 1, []string{"a"}, []string{"a"}},
		{1, 3, []string{"text"}, []string{"text", "text", "text"}},
		{2, 3, []string{"", ""}, []string{"", "", ""}},
		{2, 2, []string{"ab", "cd"}, []string{"ab", "cd"}},
		// The rows of 2 of 4 are 1 0, 0 1, 3 2, 2 3.
		{2, 4, []string{"\x01", "\x00"}, []string{"\x01", "\x00", "\x03", "\x02"}},
		{2, 4, []string{"\x00", "\x01"}, []string{"\x00", "\x01", "\x02", "\x03"}},
		{2, 4, []string{"\x01\x80", "\x01\x80"}, []string{"\x01\x80", "\x01\x80", "\x01\x80", "\x01\x80"}},
		{2, 4, []string{"\x80", "\x00"}, []string{"\x80", "\x00", "\x9d", "\x1d"}},
		// Of 3 of 4 the last is the sum: 0, 1, 2 and 3 are all the places of a field of 4.
		{3, 4, []string{"\x05", "\x06", "\xff"}, []string{"\x05", "\x06", "\xff", "\xfc"}},
		{2, 3, []string{"\x00\xff", "\x00\xff"}, []string{"\x00\xff", "\x00\xff", "\x00\xff"}},
	} {
		c := mustNew(t, x.k, x.n)
		if got, e := c.Make(x.l); e != api.OK || !slices.Equal(got, x.want) {
			t.Errorf("Make of %d of %d, %q = %q, %d, want %q", x.k, x.n, x.l, got, e, x.want)
		}
	}
}

func TestMakeIsAsPolynomialsSay(t *testing.T) {
	var ch chance
	eachCode(t, func(c *Coder, k, n int) {
		for _, size := range []int{0, 1, 2, 33} {
			l := ch.texts(k, size)
			if got, want := mustMake(t, c, l), slowPieces(n, l); !slices.Equal(got, want) {
				t.Errorf("Make of %d of %d, %q = %q, want %q", k, n, l, got, want)
			}
		}
	})
}

func TestMakeIsAsTheRowsSay(t *testing.T) {
	f := gf.New()
	var ch chance
	eachCode(t, func(c *Coder, k, n int) {
		powers, _ := rows.Powers(n, k)
		undo, _ := rows.Undo(powers[:k])
		table, e := rows.Mul(powers, undo)
		if e != api.OK {
			t.Fatalf("the rows of %d of %d: %d", k, n, e)
		}
		l := ch.texts(k, 1)
		for i, piece := range mustMake(t, c, l) {
			if sum, _ := f.Dot(table[i], []byte(strings.Join(l, ""))); piece != string([]byte{sum}) {
				t.Errorf("the piece %d of %d of %d, %q = %q, want %d", i, k, n, l, piece, sum)
			}
		}
	})
}

func TestTheFirstPiecesAreTheTexts(t *testing.T) {
	var ch chance
	eachCode(t, func(c *Coder, k, n int) {
		l := ch.texts(k, 5)
		if got := mustMake(t, c, l); len(got) != n || !slices.Equal(got[:k], l) {
			t.Errorf("Make of %d of %d, %q = %q", k, n, l, got)
		}
	})
}

func TestOfOneOfManyAllPiecesAreTheText(t *testing.T) {
	for n := 1; n <= 16; n++ {
		got := mustMake(t, mustNew(t, 1, n), []string{"only\x00one\xff"})
		if len(got) != n || slices.ContainsFunc(got, func(s string) bool { return s != "only\x00one\xff" }) {
			t.Errorf("Make of 1 of %d = %q", n, got)
		}
	}
}

func TestMakeOfEmptyTexts(t *testing.T) {
	eachCode(t, func(c *Coder, k, n int) {
		got := mustMake(t, c, make([]string, k))
		if !slices.Equal(got, make([]string, n)) || !c.Right(got) {
			t.Errorf("Make of %d of %d, empty texts = %q", k, n, got)
		}
	})
}

func TestMakeOfALongText(t *testing.T) {
	var ch chance
	l := ch.texts(3, 100000)
	if got := mustMake(t, mustNew(t, 3, 5), l); !slices.Equal(got, slowPieces(5, l)) {
		t.Errorf("Make of long texts is wrong")
	}
}

func TestMakeOfTextsThatAreNotK(t *testing.T) {
	eachCode(t, func(c *Coder, k, n int) {
		makeFails(t, c, nil)
		makeFails(t, c, []string{})
		for count := range 20 {
			if count != k {
				makeFails(t, c, make([]string, count))
				makeFails(t, c, slices.Repeat([]string{"ab"}, count))
			}
		}
	})
}

func TestMakeOfTextsThatAreNotAsLong(t *testing.T) {
	eachCode(t, func(c *Coder, k, n int) {
		for at := range k {
			for _, other := range []string{"", "a", "abc"} {
				l := slices.Repeat([]string{"ab"}, k)
				l[at] = other
				if k > 1 {
					makeFails(t, c, l)
				}
			}
		}
	})
	// As many runes, not as many bytes.
	makeFails(t, mustNew(t, 2, 3), []string{"a", "ä"})
}

// 3.1: Right

func TestRightOfPieces(t *testing.T) {
	var ch chance
	eachCode(t, func(c *Coder, k, n int) {
		for _, size := range []int{0, 1, 9} {
			if l := slowPieces(n, ch.texts(k, size)); !c.Right(l) {
				t.Errorf("Right of %d of %d, %q = false", k, n, l)
			}
		}
	})
}

func TestRightOfAPieceThatIsSpoilt(t *testing.T) {
	var ch chance
	eachCode(t, func(c *Coder, k, n int) {
		pieces := slowPieces(n, ch.texts(k, 3))
		for at := range n {
			for place := range 3 {
				spoilt := []byte(pieces[at])
				spoilt[place] ^= byte(1 + ch.below(255))
				l := slices.Clone(pieces)
				l[at] = string(spoilt)
				// Where k is n, any texts are pieces.
				if got := c.Right(l); got != (k == n) {
					t.Errorf("Right of %d of %d, the piece %d spoilt at %d = %v", k, n, at, place, got)
				}
			}
		}
	})
}

func TestRightOfWrongPieces(t *testing.T) {
	eachCode(t, func(c *Coder, k, n int) {
		pieces := slowPieces(n, slices.Repeat([]string{"ab"}, k))
		for count := range 20 {
			l := append(slices.Clone(pieces), "ab", "ab", "ab", "ab")
			if count != n && count <= len(l) && c.Right(l[:count]) {
				t.Errorf("Right of %d of %d, %d pieces", k, n, count)
			}
		}
		for at := range n {
			for _, other := range []string{"", "a", pieces[at] + "b", pieces[at] + "\x00"} {
				l := slices.Clone(pieces)
				l[at] = other
				if n > 1 && c.Right(l) {
					t.Errorf("Right of %d of %d, %q", k, n, l)
				}
			}
		}
		if c.Right(nil) || c.Right([]string{}) {
			t.Errorf("Right of %d of %d, of nothing", k, n)
		}
	})
}

func TestRightOfTurnedPieces(t *testing.T) {
	c := mustNew(t, 2, 4)
	l := mustMake(t, c, []string{"field", "hedge"})
	slices.Reverse(l[2:])
	if c.Right(l) {
		t.Errorf("Right(%q)", l)
	}
}

// 3.1, 3.2: nil

func TestNilIsNoCode(t *testing.T) {
	var c *Coder
	if k, n := c.Sizes(); k != 0 || n != 0 {
		t.Errorf("Sizes of nil = %d, %d", k, n)
	}
	for _, l := range [][]string{nil, {}, {""}, {"a"}, {"a", "b"}, {"a", "bc"}} {
		makeFails(t, c, l)
		if c.Right(l) {
			t.Errorf("Right of nil, %q", l)
		}
	}
	for _, l := range [][]Piece{nil, {}, {{}}, {{At: 0, Text: "a"}}, {{At: -1}}, {{At: 0}, {At: 0}}} {
		readFails(t, c, l, api.ErrArg)
		for _, at := range []int{-1, 0, 1} {
			againFails(t, c, l, at, api.ErrArg)
		}
	}
}

// 3.2: Read

func TestReadOfKnownPieces(t *testing.T) {
	c := mustNew(t, 2, 4)
	for _, l := range [][]Piece{
		{{0, "\x80"}, {1, "\x00"}},
		{{1, "\x00"}, {0, "\x80"}},
		{{2, "\x9d"}, {3, "\x1d"}},
		{{3, "\x1d"}, {2, "\x9d"}},
		{{3, "\x1d"}, {0, "\x80"}},
		{{1, "\x00"}, {2, "\x9d"}},
	} {
		readsAs(t, c, l, []string{"\x80", "\x00"})
	}
	readsAs(t, mustNew(t, 1, 3), []Piece{{2, "text"}}, []string{"text"})
	readsAs(t, mustNew(t, 2, 3), []Piece{{2, ""}, {0, ""}}, []string{"", ""})
}

func TestReadOfWhateverTexts(t *testing.T) {
	// Any k texts are some texts' pieces: those that are read have them for pieces.
	var ch chance
	eachCode(t, func(c *Coder, k, n int) {
		numbers := ch.order(n)[:k]
		texts := ch.texts(k, 4)
		var l []Piece
		for i, at := range numbers {
			l = append(l, Piece{At: at, Text: texts[i]})
		}
		got, e := c.Read(l)
		if e != api.OK || len(got) != k {
			t.Errorf("Read of %d of %d, %#v = %q, %d", k, n, l, got, e)
			return
		}
		if pieces := slowPieces(n, got); !slices.Equal(pick(pieces, numbers), l) {
			t.Errorf("Read of %d of %d, %#v = %q, whose pieces are %q", k, n, l, got, pieces)
		}
	})
}

func TestReadOfFewPieces(t *testing.T) {
	var ch chance
	eachCode(t, func(c *Coder, k, n int) {
		pieces := slowPieces(n, ch.texts(k, 3))
		readFails(t, c, nil, api.ErrFew)
		readFails(t, c, []Piece{}, api.ErrFew)
		for count := range k {
			l := pick(pieces, ch.order(n)[:count])
			readFails(t, c, l, api.ErrFew)
			againFails(t, c, l, n-1, api.ErrFew)
		}
	})
}

func TestReadOfMorePiecesThanItNeeds(t *testing.T) {
	var ch chance
	eachCode(t, func(c *Coder, k, n int) {
		texts := ch.texts(k, 3)
		l := pick(slowPieces(n, texts), ch.order(n))
		for count := k; count <= n; count++ {
			readsAs(t, c, l[:count], texts)
		}
		// What stands behind the first k may be of any bytes.
		for i := k; i < n; i++ {
			l[i].Text = "bad"
		}
		for count := k; count <= n; count++ {
			readsAs(t, c, l[:count], texts)
		}
	})
}

func TestReadLooksAtTheFirstAlone(t *testing.T) {
	c := mustNew(t, 2, 4)
	l := mustMake(t, c, []string{"field", "hedge"})
	readsAs(t, c, []Piece{{3, l[3]}, {2, l[2]}, {0, "ditch"}, {1, "ditch"}}, []string{"field", "hedge"})
	readsAs(t, c, []Piece{{0, "ditch"}, {1, "ditch"}, {2, l[2]}, {3, l[3]}}, []string{"ditch", "ditch"})
}

func TestReadOfNumbersThatMayNotBe(t *testing.T) {
	var ch chance
	eachCode(t, func(c *Coder, k, n int) {
		pieces := slowPieces(n, ch.texts(k, 2))
		for count := 1; count <= n; count++ {
			for _, wrong := range notNumbers(n) {
				if wrong >= 0 && wrong < n {
					continue
				}
				// At each place, behind the first k and with fewer than k too.
				l := pick(pieces, ch.order(n)[:count])
				l[ch.below(count)].At = wrong
				readFails(t, c, l, api.ErrArg)
				againFails(t, c, l, 0, api.ErrArg)
			}
		}
	})
}

func TestReadOfANumberOfNBehindTheFirst(t *testing.T) {
	eachCode(t, func(c *Coder, k, n int) {
		l := pick(slowPieces(n, slices.Repeat([]string{"ab"}, k)), bitsOf(1<<k-1))
		for _, wrong := range []int{-1, n} {
			readFails(t, c, append(slices.Clone(l), Piece{At: wrong, Text: "ab"}), api.ErrArg)
		}
	})
}

func TestReadOfNumbersThatStandTwice(t *testing.T) {
	var ch chance
	eachCode(t, func(c *Coder, k, n int) {
		pieces := slowPieces(n, ch.texts(k, 2))
		for count := 1; count <= n; count++ {
			l := pick(pieces, ch.order(n)[:count])
			for at := range count {
				// The piece again, behind all others; and with another text.
				readFails(t, c, append(slices.Clone(l), l[at]), api.ErrArg)
				readFails(t, c, append(slices.Clone(l), Piece{At: l[at].At, Text: "zz"}), api.ErrArg)
				readFails(t, c, append([]Piece{l[at]}, l...), api.ErrArg)
				againFails(t, c, append(slices.Clone(l), l[at]), 0, api.ErrArg)
			}
		}
	})
}

func TestReadOfEachTwoPlacesAlike(t *testing.T) {
	c := mustNew(t, 3, 6)
	pieces := mustMake(t, c, []string{"ab", "cd", "ef"})
	for i := range 6 {
		for j := range i {
			l := pick(pieces, []int{5, 0, 4, 1, 3, 2})
			l[i].At = l[j].At
			readFails(t, c, l, api.ErrArg)
		}
	}
}

func TestReadOfPiecesThatAreNotAsLong(t *testing.T) {
	var ch chance
	eachCode(t, func(c *Coder, k, n int) {
		pieces := slowPieces(n, ch.texts(k, 2))
		for count := 2; count <= n; count++ {
			for at := range count {
				for _, other := range []string{"", "a", "abc"} {
					l := pick(pieces, ch.order(n)[:count])
					l[at].Text = other
					readFails(t, c, l, api.ErrArg)
					againFails(t, c, l, 0, api.ErrArg)
				}
			}
		}
	})
}

func TestReadOfVeryManyPieces(t *testing.T) {
	c := mustNew(t, 2, 3)
	readFails(t, c, make([]Piece, 100000), api.ErrArg)
	l := make([]Piece, 100000)
	for i := range l {
		l[i].At = i
	}
	readFails(t, c, l, api.ErrArg)
}

// 3.2: Again

func TestAgainOfKnownPieces(t *testing.T) {
	c := mustNew(t, 2, 4)
	for at, want := range []string{"\x80", "\x00", "\x9d", "\x1d"} {
		if got, e := c.Again([]Piece{{3, "\x1d"}, {1, "\x00"}}, at); e != api.OK || got != want {
			t.Errorf("Again(%d) = %q, %d, want %q", at, got, e, want)
		}
	}
	if got, e := mustNew(t, 1, 3).Again([]Piece{{1, ""}}, 2); e != api.OK || got != "" {
		t.Errorf("Again of an empty piece = %q, %d", got, e)
	}
}

func TestAgainIsOfTheTextsThatAreRead(t *testing.T) {
	// A piece that is handed in behind the first k isn't handed out: it is made of these.
	c := mustNew(t, 2, 4)
	l := mustMake(t, c, []string{"field", "hedge"})
	for _, at := range []int{0, 2} {
		if got, e := c.Again([]Piece{{3, l[3]}, {1, l[1]}, {at, "ditch"}}, at); e != api.OK || got != l[at] {
			t.Errorf("Again(%d) = %q, %d, want %q", at, got, e, l[at])
		}
	}
}

func TestAgainAtNumbersThatMayNotBe(t *testing.T) {
	var ch chance
	eachCode(t, func(c *Coder, k, n int) {
		l := pick(slowPieces(n, ch.texts(k, 2)), ch.order(n))
		for _, at := range notNumbers(n) {
			if at < 0 || at >= n {
				againFails(t, c, l[:k], at, api.ErrArg)
				againFails(t, c, l, at, api.ErrArg)
			}
		}
	})
}

func TestAgainTellsReadsErrorFirst(t *testing.T) {
	eachCode(t, func(c *Coder, k, n int) {
		for _, at := range []int{-1, n, math.MaxInt, math.MinInt} {
			againFails(t, c, nil, at, api.ErrFew)
			againFails(t, c, []Piece{{At: n}}, at, api.ErrArg)
			againFails(t, c, []Piece{{At: 0}, {At: 0}}, at, api.ErrArg)
		}
	})
	againFails(t, mustNew(t, 3, 4), []Piece{{At: 0}, {At: 1}}, 4, api.ErrFew)
	againFails(t, mustNew(t, 3, 4), []Piece{{At: 0}, {At: 1, Text: "a"}}, 2, api.ErrArg)
}

// 3.3

// madeOf fails the test unless of these pieces the texts are read, and each piece is made again.
func madeOf(t *testing.T, c *Coder, texts, pieces []string, numbers []int) {
	t.Helper()
	l := pick(pieces, numbers)
	readsAs(t, c, l, texts)
	for at, want := range pieces {
		if got, e := c.Again(l, at); e != api.OK || got != want {
			t.Errorf("Again of %v, %d = %q, %d, want %q", numbers, at, got, e, want)
		}
	}
}

func TestAnyPiecesMakeAllOfSmallCodes(t *testing.T) {
	var ch chance
	for n := 1; n <= 9; n++ {
		for set := 1; set < 1<<n; set++ {
			numbers := bitsOf(set)
			c := mustNew(t, len(numbers), n)
			texts := ch.texts(len(numbers), 2)
			pieces := mustMake(t, c, texts)
			madeOf(t, c, texts, pieces, numbers)
			slices.Reverse(numbers)
			madeOf(t, c, texts, pieces, numbers)
		}
	}
}

func TestAnyPiecesMakeAllOfAllCodes(t *testing.T) {
	var ch chance
	eachCode(t, func(c *Coder, k, n int) {
		texts := ch.texts(k, 3)
		pieces := mustMake(t, c, texts)
		for range 10 {
			madeOf(t, c, texts, pieces, ch.order(n)[:k])
		}
		madeOf(t, c, texts, pieces, ch.order(n))
	})
}

func TestAnyEightOfSixteenAreRead(t *testing.T) {
	var ch chance
	c := mustNew(t, 8, 16)
	texts := ch.texts(8, 1)
	pieces := mustMake(t, c, texts)
	for set := range 1 << 16 {
		if numbers := bitsOf(set); len(numbers) == 8 {
			readsAs(t, c, pick(pieces, numbers), texts)
		}
	}
}

// sums is the sum of texts, byte by byte.
func sums(a, b []string) []string {
	l := make([]string, len(a))
	for i := range a {
		sum := []byte(a[i])
		for j := range sum {
			sum[j] = gf.Add(sum[j], b[i][j])
		}
		l[i] = string(sum)
	}
	return l
}

func TestThePiecesOfSumsAreTheSumsOfThePieces(t *testing.T) {
	var ch chance
	eachCode(t, func(c *Coder, k, n int) {
		a, b := ch.texts(k, 7), ch.texts(k, 7)
		if got, want := mustMake(t, c, sums(a, b)), sums(mustMake(t, c, a), mustMake(t, c, b)); !slices.Equal(got, want) {
			t.Errorf("the pieces of the sum of %q and %q = %q, want %q", a, b, got, want)
		}
	})
}

// Rules 3, 4 and 6: nothing that is handed in or out is changed or kept

func TestWhatIsHandedInIsNotChanged(t *testing.T) {
	c := mustNew(t, 2, 4)
	room := []string{"field", "hedge", "spare", "rooms", "is", "here"}
	want := slices.Clone(room)
	mustMake(t, c, room[:2])
	c.Right(room[:4])
	if !slices.Equal(room, want) {
		t.Errorf("the texts are %q", room)
	}
	l := pick(mustMake(t, c, room[:2]), []int{3, 1, 0, 2})
	before := slices.Clone(l)
	c.Read(l[:2])
	c.Again(l[:3], 2)
	if !slices.Equal(l, before) {
		t.Errorf("the pieces are %#v", l)
	}
}

func TestWhatIsHandedOutIsNew(t *testing.T) {
	c := mustNew(t, 2, 4)
	in := []string{"field", "hedge"}
	first := mustMake(t, c, in)
	want := slices.Clone(first)
	second := mustMake(t, c, in)
	in[0] = "other"
	spoil(second)
	if !slices.Equal(first, want) {
		t.Errorf("the first answer is %q", first)
	}
	l := pick(first, []int{3, 2})
	read, e := c.Read(l)
	l[0].Text = "other"
	if e != api.OK || !slices.Equal(read, want[:2]) {
		t.Errorf("Read = %q, %d", read, e)
	}
	spoil(read)
	readsAs(t, c, pick(first, []int{3, 2}), want[:2])
	if got := mustMake(t, c, want[:2]); !slices.Equal(got, want) {
		t.Errorf("Make = %q", got)
	}
}

// spoil writes into a list, spare room included.
func spoil(l []string) {
	l = l[:cap(l)]
	for i := range l {
		l[i] = "spoilt"
	}
}

func TestCallsDoNotHangOnEarlierOnes(t *testing.T) {
	c := mustNew(t, 3, 5)
	texts := []string{"one", "two", "six"}
	pieces := mustMake(t, c, texts)
	for range 3 {
		makeFails(t, c, []string{"a", "b", "cd"})
		readFails(t, c, []Piece{{At: 4}, {At: 4}}, api.ErrArg)
		readFails(t, c, []Piece{{At: 4}}, api.ErrFew)
		againFails(t, c, pick(pieces, []int{4, 3, 2}), 5, api.ErrArg)
		readsAs(t, c, pick(pieces, []int{4, 3, 2}), texts)
		if got := mustMake(t, c, texts); !slices.Equal(got, pieces) || !c.Right(got) {
			t.Errorf("Make = %q, want %q", got, pieces)
		}
		if k, n := c.Sizes(); k != 3 || n != 5 {
			t.Errorf("Sizes = %d, %d", k, n)
		}
	}
}

func TestCodesOfOneSizeAreAlike(t *testing.T) {
	var ch chance
	eachCode(t, func(c *Coder, k, n int) {
		l := ch.texts(k, 3)
		if a, b := mustMake(t, c, l), mustMake(t, mustNew(t, k, n), l); !slices.Equal(a, b) {
			t.Errorf("two codes of %d of %d make %q and %q", k, n, a, b)
		}
	})
}
