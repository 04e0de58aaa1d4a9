package stripe

import (
	"encoding/binary"
	"fmt"
	"hash/crc32"
	"math"
	"slices"
	"strconv"
	"strings"
	"testing"
	"unsafe"

	"stook/api"
	"stook/coder"
	"stook/tape"
)

// large is the most bytes of a spill, most the greatest number of a task or an attempt, workers how many there are, farNum the greatest number that has bytes, farSum the greatest sum, as the document has them.
const (
	large   = 16777216
	most    = 2147483647
	workers = 16
	farNum  = 9007199254740991
	farSum  = 4294967295
)

// clip is something as a fault tells it.
func clip(v any) string {
	s := strconv.QuoteToASCII(fmt.Sprint(v))
	if len(s) > 300 {
		return s[:150] + ".." + s[len(s)-150:]
	}
	return s
}

// chance is numbers that look like those of chance, and are the same each time.
type chance uint32

func (c *chance) below(n int) int {
	*c = *c*1664525 + 1013904223
	return int(*c>>16) % n
}

// text is so many bytes of chance.
func (c *chance) text(n int) string {
	b := make([]byte, n)
	for i := range b {
		b[i] = byte(c.below(256))
	}
	return string(b)
}

// order is the numbers from 0 to n - 1, mixed.
func (c *chance) order(n int) []int {
	l := make([]int, n)
	for i := range l {
		j := c.below(i + 1)
		l[i], l[j] = l[j], i
	}
	return l
}

// homes is n workers of chance, no two alike.
func (c *chance) homes(n int) []int {
	l := c.order(workers)[:n]
	for i := range l {
		l[i]++
	}
	return l
}

// number is a number of chance at an edge of what may be, or beside one.
func (c *chance) number() int {
	l := []int{0, 1, 3, 15, 16, 17, 127, 128, 255, 256, large - 1, large, large + 1, most, most + 1, farSum, farSum + 1, farNum, farNum + 1, -1, -farNum, math.MinInt, math.MaxInt}
	return l[c.below(len(l))]
}

// manifest is a right manifest of chance.
func (c *chance) manifest(parts, n int) api.Manifest {
	m := api.Manifest{Task: c.below(300), Attempt: c.below(300)}
	for range parts {
		m.Size = append(m.Size, c.below(40000))
		m.Sum = append(m.Sum, uint32(c.below(65536))<<16+uint32(c.below(65536)))
		m.Homes = append(m.Homes, c.homes(n))
	}
	return m
}

// own is a manifest with lists of its own.
func own(m api.Manifest) api.Manifest {
	m.Size = slices.Clone(m.Size)
	m.Sum = slices.Clone(m.Sum)
	m.Homes = slices.Clone(m.Homes)
	for i, l := range m.Homes {
		m.Homes[i] = slices.Clone(l)
	}
	return m
}

// The second rule: what the chapter says, in another way

// slowTexts is the k texts of a spill, byte by byte.
func slowTexts(k int, spill string) []string {
	for len(spill)%k != 0 {
		spill += "\x00"
	}
	l := make([]string, k)
	for i := range len(spill) {
		l[i*k/len(spill)] += spill[i : i+1]
	}
	return l
}

// slowJoin reads the texts, and takes their bytes one by one.
func slowJoin(c *coder.Coder, l []coder.Piece, size int, sum uint32) (string, api.Errno) {
	texts, e := c.Read(l)
	if e != api.OK {
		return "", e
	}
	var b []byte
	for _, text := range texts {
		for i := range len(text) {
			if len(b) < size {
				b = append(b, text[i])
			}
		}
	}
	if len(b) != size {
		return "", api.ErrForm
	}
	if crc32.ChecksumIEEE(b) != sum {
		return "", api.ErrCrc
	}
	return string(b), api.OK
}

// slowRight counts how often each worker is a home.
func slowRight(m api.Manifest, parts, n int) bool {
	if m.Task != int(uint32(m.Task)&math.MaxInt32) || m.Attempt != int(uint32(m.Attempt)&math.MaxInt32) {
		return false
	}
	if len(m.Size) != parts || len(m.Sum) != parts || len(m.Homes) != parts {
		return false
	}
	for _, size := range m.Size {
		if uint(size) > large {
			return false
		}
	}
	for _, homes := range m.Homes {
		times := map[int]int{}
		for _, home := range homes {
			times[home]++
		}
		unlike := 0
		for worker := 1; worker <= workers; worker++ {
			if times[worker] == 1 {
				unlike++
			}
		}
		if unlike != n || len(homes) != n {
			return false
		}
	}
	return true
}

// slowSame holds manifests against each other as they are printed, where a nil list is as an empty one.
func slowSame(a, b api.Manifest) bool { return fmt.Sprintf("%v", a) == fmt.Sprintf("%v", b) }

// slowBytes lays numbers by the library.
func slowBytes(m api.Manifest) string {
	parts := len(m.Homes)
	if len(m.Size) != parts || len(m.Sum) != parts {
		return ""
	}
	var b []byte
	bad := false
	num := func(n int) {
		bad = bad || n < 0 || n > farNum
		b = binary.AppendUvarint(b, uint64(n))
	}
	num(m.Task)
	num(m.Attempt)
	num(parts)
	for i, homes := range m.Homes {
		num(m.Size[i])
		num(int(m.Sum[i]))
		num(len(homes))
		for _, home := range homes {
			num(home)
		}
	}
	if bad {
		return ""
	}
	return string(b)
}

// reader reads bytes from a place on; its first error is kept, and nothing is read behind it.
type reader struct {
	s  string
	at int
	e  api.Errno
}

// num reads a number; one above most is that error.
func (r *reader) num(most int, large api.Errno) int {
	if r.e != api.OK {
		return 0
	}
	for size := 1; ; size++ {
		if r.at+size > len(r.s) {
			r.e = api.ErrShort
			return 0
		}
		part := r.s[r.at : r.at+size]
		if part[size-1] >= 128 && size < 8 {
			continue
		}
		n, _ := binary.Uvarint([]byte(part))
		switch {
		case part[size-1] >= 128, n > farNum, string(binary.AppendUvarint(nil, n)) != part:
			r.e = api.ErrForm
			return 0
		case int(n) > most:
			r.e = large
			return 0
		}
		r.at += size
		return int(n)
	}
}

func slowRead(s string) (api.Manifest, api.Errno) {
	r := reader{s: s}
	m := api.Manifest{Task: r.num(farNum, 0), Attempt: r.num(farNum, 0)}
	for parts := r.num(len(s), api.ErrLarge); parts > 0 && r.e == api.OK; parts-- {
		m.Size = append(m.Size, r.num(farNum, 0))
		m.Sum = append(m.Sum, uint32(r.num(farSum, api.ErrForm)))
		var homes []int
		for left := r.num(len(s), api.ErrLarge); left > 0 && r.e == api.OK; left-- {
			homes = append(homes, r.num(farNum, 0))
		}
		m.Homes = append(m.Homes, homes)
	}
	if r.e == api.OK && r.at < len(s) {
		r.e = api.ErrForm
	}
	if r.e != api.OK {
		return api.Manifest{}, r.e
	}
	return m, api.OK
}

// What calls are asked to answer

// made is a code of k of n.
func made(t *testing.T, k, n int) *coder.Coder {
	t.Helper()
	c, e := coder.New(k, n)
	if e != api.OK {
		t.Fatalf("New(%d, %d) = %d", k, n, e)
	}
	return c
}

// eachCode calls what is to be done with all codes that there are.
func eachCode(t *testing.T, do func(c *coder.Coder, k, n int)) {
	t.Helper()
	for n := 1; n <= 16; n++ {
		for k := 1; k <= n; k++ {
			do(made(t, k, n), k, n)
		}
	}
}

// cut cuts what must be cut.
func cut(t *testing.T, c *coder.Coder, spill string) []string {
	t.Helper()
	l, e := Cut(c, spill)
	if e != api.OK {
		t.Fatalf("Cut(%s) = %s, %d", clip(spill), clip(l), e)
	}
	return l
}

// cuts says that a spill is cut as the second rule has it.
func cuts(t *testing.T, c *coder.Coder, spill string) {
	t.Helper()
	l := cut(t, c, spill)
	k, n := c.Sizes()
	if len(l) != n || !slices.Equal(l[:k], slowTexts(k, spill)) || !c.Right(l) {
		t.Errorf("%d of %d: Cut(%s) = %s", k, n, clip(spill), clip(l))
	}
}

// pick is the pieces with these numbers, in their order.
func pick(pieces []string, numbers []int) []coder.Piece {
	l := make([]coder.Piece, len(numbers))
	for i, at := range numbers {
		l[i] = coder.Piece{At: at, Text: pieces[at]}
	}
	return l
}

// joins says what pieces are joined to.
func joins(t *testing.T, c *coder.Coder, l []coder.Piece, size int, sum uint32, want string, e api.Errno) {
	t.Helper()
	if s, got := Join(c, l, size, sum); s != want || got != e {
		k, n := c.Sizes()
		t.Errorf("%d of %d: Join(%s, %d, %d) = %s, %d, want %s, %d", k, n, clip(l), size, sum, clip(s), got, clip(want), e)
	}
}

// joinsAsTheRule says that pieces are joined as the second rule has it.
func joinsAsTheRule(t *testing.T, c *coder.Coder, l []coder.Piece, size int, sum uint32) {
	t.Helper()
	want, e := slowJoin(c, l, size, sum)
	joins(t, c, l, size, sum, want, e)
}

// right says whether a manifest is right.
func right(t *testing.T, m api.Manifest, parts, n int, want bool) {
	t.Helper()
	if got := Right(m, parts, n); got != want || got != slowRight(m, parts, n) {
		t.Errorf("Right(%v, %d, %d) = %v", m, parts, n, got)
	}
}

// reads says what bytes are read as.
func reads(t *testing.T, s string, want api.Manifest, e api.Errno) {
	t.Helper()
	if m, got := Read(s); !slowSame(m, want) || got != e {
		t.Errorf("Read(%s) = %s, %d, want %s, %d", clip(s), clip(m), got, clip(want), e)
	}
}

// readsAsTheRule says that bytes are read as the second rule has it, and is the error.
func readsAsTheRule(t *testing.T, s string) api.Errno {
	t.Helper()
	want, e := slowRead(s)
	reads(t, s, want, e)
	return e
}

// same says whether manifests are alike, both ways round.
func same(t *testing.T, a, b api.Manifest, want bool) {
	t.Helper()
	if Same(a, b) != want || Same(b, a) != want {
		t.Errorf("Same(%v, %v) = %v, %v", a, b, Same(a, b), Same(b, a))
	}
}

// 16.1: Cut

func TestCutOfTheExample(t *testing.T) {
	// The third one is a + 2(a + b) of the bytes a, b of the first two.
	if l := cut(t, made(t, 2, 3), "abc"); !slices.Equal(l, []string{"ab", "c\x00", "e\xa6"}) {
		t.Errorf("Cut = %q", l)
	}
	if l := cut(t, made(t, 1, 3), "abc"); !slices.Equal(l, []string{"abc", "abc", "abc"}) {
		t.Errorf("Cut = %q", l)
	}
	if l := cut(t, made(t, 4, 4), "abcde"); !slices.Equal(l, []string{"ab", "cd", "e\x00", "\x00\x00"}) {
		t.Errorf("Cut = %q", l)
	}
	if l := cut(t, made(t, 2, 3), ""); !slices.Equal(l, []string{"", "", ""}) {
		t.Errorf("Cut = %q", l)
	}
}

func TestCutByAllCodes(t *testing.T) {
	chance := chance(1)
	eachCode(t, func(c *coder.Coder, k, n int) {
		for size := range 2*k + 3 {
			cuts(t, c, chance.text(size))
		}
		cuts(t, c, chance.text(8*k-1))
		cuts(t, c, chance.text(8*k))
		cuts(t, c, chance.text(8*k+1))
		cuts(t, c, strings.Repeat("\x00", k+1))
		cuts(t, c, "x"+strings.Repeat("\x00", k))
		cuts(t, c, "\xff\xfe\xe2\x82")
	})
}

// What is filled up is no more than it takes, and nothing where it fits.
func TestCutTellsHowLongPiecesAre(t *testing.T) {
	eachCode(t, func(c *coder.Coder, k, n int) {
		for size := range 50 {
			want := 0
			for want*k < size {
				want++
			}
			for _, piece := range cut(t, c, strings.Repeat("x", size)) {
				if len(piece) != want {
					t.Errorf("%d of %d: %d bytes are cut to a piece of %d", k, n, size, len(piece))
				}
			}
		}
	})
}

func TestCutOfTheLargest(t *testing.T) {
	spill := "begins" + strings.Repeat("x", large-10) + "ends"
	for _, sizes := range [][2]int{{1, 1}, {3, 3}, {7, 8}, {16, 16}} {
		c := made(t, sizes[0], sizes[1])
		l := cut(t, c, spill)
		all := strings.Join(l[:sizes[0]], "")
		if !strings.HasPrefix(all, spill) || strings.Trim(all[large:], "\x00") != "" || len(all) >= large+sizes[0] {
			t.Errorf("%v: Cut = %s", sizes, clip(l))
		}
		s, e := Join(c, pick(l, upTo(sizes[0])), large, crc32.ChecksumIEEE([]byte(spill)))
		if s != spill || e != api.OK {
			t.Errorf("%v: Join = %s, %d", sizes, clip(s), e)
		}
	}
}

// upTo is the numbers from 0 to k - 1.
func upTo(k int) []int {
	l := make([]int, k)
	for i := range l {
		l[i] = i
	}
	return l
}

func TestCutOfWhatMayNotBe(t *testing.T) {
	fails := func(c *coder.Coder, spill string) {
		t.Helper()
		if l, e := Cut(c, spill); len(l) != 0 || e != api.ErrArg {
			t.Errorf("Cut(%s) = %s, %d", clip(spill), clip(l), e)
		}
	}
	over := strings.Repeat("x", large+1)
	for _, spill := range []string{"", "a", "abc", over} {
		fails(nil, spill)
	}
	for _, sizes := range [][2]int{{1, 1}, {2, 3}, {16, 16}, {1, 16}} {
		fails(made(t, sizes[0], sizes[1]), over)
		fails(made(t, sizes[0], sizes[1]), over+"xx")
	}
}

// 16.1: Join

func TestJoinOfAllChoices(t *testing.T) {
	chance := chance(2)
	for n := 1; n <= 7; n++ {
		for k := 1; k <= n; k++ {
			c := made(t, k, n)
			for _, spill := range []string{"", "a", chance.text(k), chance.text(3*k - 1), chance.text(3*k + 1), "ten sheaves\x00\x00"} {
				l := cut(t, c, spill)
				sum := crc32.ChecksumIEEE([]byte(spill))
				for set := range 1 << n {
					var numbers []int
					for _, at := range chance.order(n) {
						if set>>at&1 == 1 {
							numbers = append(numbers, at)
						}
					}
					if len(numbers) < k {
						joins(t, c, pick(l, numbers), len(spill), sum, "", api.ErrFew)
						continue
					}
					joins(t, c, pick(l, numbers), len(spill), sum, spill, api.OK)
				}
			}
		}
	}
}

func TestJoinByAllCodes(t *testing.T) {
	chance := chance(3)
	eachCode(t, func(c *coder.Coder, k, n int) {
		for range 10 {
			spill := chance.text(chance.below(6 * k))
			l, sum := cut(t, c, spill), crc32.ChecksumIEEE([]byte(spill))
			numbers := chance.order(n)
			joins(t, c, pick(l, numbers[:k]), len(spill), sum, spill, api.OK)
			joins(t, c, pick(l, numbers), len(spill), sum, spill, api.OK)
			joins(t, c, pick(l, numbers[:k-1]), len(spill), sum, "", api.ErrFew)
			joins(t, c, pick(l, numbers[:k]), len(spill), sum^1, "", api.ErrCrc)
		}
	})
}

// Any size up to that of all texts is taken, if it has that sum: the zero bytes too.
func TestJoinOfAllSizes(t *testing.T) {
	for _, sizes := range [][2]int{{1, 1}, {2, 3}, {3, 5}, {5, 7}} {
		c := made(t, sizes[0], sizes[1])
		spill := "ten sheaves a stook"
		l := cut(t, c, spill)
		filled := strings.Join(l[:sizes[0]], "")
		numbers := chance(4)
		p := pick(l, numbers.order(sizes[1]))
		for size := range len(filled) + 1 {
			sum := crc32.ChecksumIEEE([]byte(filled[:size]))
			joins(t, c, p, size, sum, filled[:size], api.OK)
			joins(t, c, p, size, sum+1, "", api.ErrCrc)
			joins(t, c, p, size, ^sum, "", api.ErrCrc)
			if size > 0 {
				joins(t, c, p, size, crc32.ChecksumIEEE([]byte(filled[:size-1])), "", api.ErrCrc)
			}
		}
		for _, size := range []int{len(filled) + 1, len(filled) + 2, 2 * len(filled), 1 << 24, 1<<24 + 1, 1 << 32, math.MaxInt, -1, -2, -len(spill), -1 << 32, math.MinInt} {
			// Whatever the sum is: ErrForm is told ahead of ErrCrc.
			for _, sum := range []uint32{0, 1, crc32.ChecksumIEEE([]byte(spill)), crc32.ChecksumIEEE([]byte(filled)), farSum} {
				joins(t, c, p, size, sum, "", api.ErrForm)
			}
		}
	}
}

func TestJoinOfNothing(t *testing.T) {
	c := made(t, 2, 3)
	p := []coder.Piece{{At: 2}, {At: 0}}
	joins(t, c, p, 0, 0, "", api.OK)
	joins(t, c, p, 0, 1, "", api.ErrCrc)
	joins(t, c, p, 1, 0, "", api.ErrForm)
	joins(t, c, p, -1, 0, "", api.ErrForm)
	joins(t, c, p[:1], 0, 0, "", api.ErrFew)
	joins(t, c, nil, 0, 0, "", api.ErrFew)
	joins(t, nil, nil, 0, 0, "", api.ErrArg)
}

// Layer 3's errors are told ahead of all others.
func TestJoinOfPiecesThatAreNone(t *testing.T) {
	c := made(t, 2, 4)
	spill := "rye and oats"
	l := cut(t, c, spill)
	sum := crc32.ChecksumIEEE([]byte(spill))
	good := pick(l, []int{1, 3})
	joins(t, c, good, len(spill), sum, spill, api.OK)
	for _, at := range []struct {
		size int
		sum  uint32
	}{{len(spill), sum}, {len(spill), sum + 1}, {len(spill) + 1, sum}, {-1, 0}, {math.MaxInt, 1}} {
		joins(t, nil, good, at.size, at.sum, "", api.ErrArg)
		joins(t, c, good[:1], at.size, at.sum, "", api.ErrFew)
		for _, n := range []int{-1, 4, 5, 16, 1 << 32, math.MinInt, math.MaxInt} {
			joins(t, c, []coder.Piece{good[0], {At: n, Text: l[0]}}, at.size, at.sum, "", api.ErrArg)
			joins(t, c, []coder.Piece{{At: n, Text: l[0]}}, at.size, at.sum, "", api.ErrArg)
			joins(t, c, append(slices.Clone(good), coder.Piece{At: n, Text: l[0]}), at.size, at.sum, "", api.ErrArg)
		}
		joins(t, c, []coder.Piece{good[0], good[0]}, at.size, at.sum, "", api.ErrArg)
		joins(t, c, append(slices.Clone(good), good[0]), at.size, at.sum, "", api.ErrArg)
		joins(t, c, []coder.Piece{good[0], {At: 0, Text: l[0] + "x"}}, at.size, at.sum, "", api.ErrArg)
		joins(t, c, []coder.Piece{good[0], {At: 0, Text: ""}}, at.size, at.sum, "", api.ErrArg)
		joins(t, c, append(slices.Clone(good), coder.Piece{At: 2, Text: l[2][1:]}), at.size, at.sum, "", api.ErrArg)
	}
	// What stands behind the first k isn't looked at but for its number and length.
	joins(t, c, append(slices.Clone(good), coder.Piece{At: 0, Text: "spoilt"}), len(spill), sum, spill, api.OK)
}

func TestJoinOfPiecesOfChance(t *testing.T) {
	chance := chance(5)
	met := map[api.Errno]int{}
	for range 20000 {
		n := 1 + chance.below(6)
		k := 1 + chance.below(n)
		c := made(t, k, n)
		size := chance.below(5)
		var l []coder.Piece
		for _, at := range chance.order(n)[:chance.below(n+1)] {
			if chance.below(20) == 0 {
				at = chance.below(n+4) - 2
			}
			l = append(l, coder.Piece{At: at, Text: chance.text(size + chance.below(50)/49)})
		}
		take := chance.below(k*size+3) - 1
		sum := uint32(chance.below(4))
		if texts, e := c.Read(l); e == api.OK && take >= 0 && take <= k*size && chance.below(3) > 0 {
			sum = crc32.ChecksumIEEE([]byte(strings.Join(texts, ""))[:take])
		}
		joinsAsTheRule(t, c, l, take, sum)
		_, e := Join(c, l, take, sum)
		met[e]++
	}
	for _, e := range []api.Errno{api.OK, api.ErrArg, api.ErrFew, api.ErrForm, api.ErrCrc} {
		if met[e] < 100 {
			t.Errorf("%d is met %d times", e, met[e])
		}
	}
}

// 16.2: Right

// base is a manifest that is right for two parts and a code of three pieces.
func base() api.Manifest {
	return api.Manifest{Task: 3, Attempt: 200, Size: []int{3, 0}, Sum: []uint32{farSum, 0}, Homes: [][]int{{1, 16, 4}, {4, 2, 7}}}
}

func TestRight(t *testing.T) {
	for parts := range 4 {
		for n := range 6 {
			right(t, base(), parts, n, parts == 2 && n == 3)
		}
	}
	for _, n := range []int{-1, -3, 17, 1 << 32, 3 + 1<<32, math.MinInt, math.MaxInt} {
		right(t, base(), 2, n, false)
		right(t, base(), n, 3, false)
	}
	right(t, api.Manifest{}, 0, 3, true)
	right(t, api.Manifest{Size: []int{}, Sum: []uint32{}, Homes: [][]int{}}, 0, 1, true)
	right(t, api.Manifest{}, 1, 3, false)
	right(t, api.Manifest{}, -1, 3, false)
}

func TestRightOfAllNumbers(t *testing.T) {
	for _, n := range []int{0, 1, 2, 127, 128, large - 1, large, large + 1, most - 1, most, most + 1, farSum, farSum + 1, 1<<32 + 1, farNum, farNum + 1, -1, -2, -most, -most - 1, -1 << 32, math.MinInt, math.MinInt + 1, math.MaxInt} {
		m := base()
		m.Task = n
		right(t, m, 2, 3, n >= 0 && n <= most)
		m = base()
		m.Attempt = n
		right(t, m, 2, 3, n >= 0 && n <= most)
		for part := range 2 {
			m = base()
			m.Size[part] = n
			right(t, m, 2, 3, n >= 0 && n <= large)
			for at := range 3 {
				m = base()
				m.Homes[part][at] = n
				right(t, m, 2, 3, slowRight(m, 2, 3) && n >= 1 && n <= workers)
			}
		}
	}
}

func TestRightOfHomes(t *testing.T) {
	for _, at := range []struct {
		homes []int
		n     int
		want  bool
	}{
		{nil, 1, false}, {[]int{}, 1, false}, {[]int{1}, 1, true}, {[]int{16}, 1, true}, {[]int{0}, 1, false}, {[]int{17}, 1, false}, {[]int{-1}, 1, false},
		{[]int{1, 2}, 2, true}, {[]int{2, 1}, 2, true}, {[]int{1, 1}, 2, false}, {[]int{1, 1}, 1, false}, {[]int{16, 3, 16}, 3, false}, {[]int{5, 16, 16}, 3, false},
		{[]int{1, 2, 3}, 2, false}, {[]int{1, 2}, 3, false}, {[]int{1, 2, 3, 3}, 3, false}, {[]int{1, 2, 3, 0}, 3, false},
		{[]int{16, 15, 14, 13, 12, 11, 10, 9, 8, 7, 6, 5, 4, 3, 2, 1}, 16, true},
		{[]int{16, 15, 14, 13, 12, 11, 10, 9, 8, 7, 6, 5, 4, 3, 2, 1, 1}, 16, false},
		{[]int{16, 15, 14, 13, 12, 11, 10, 9, 8, 7, 6, 5, 4, 3, 2, 1, 17}, 17, false},
		{[]int{16, 15, 14, 13, 12, 11, 10, 9, 8, 7, 6, 5, 4, 3, 2, 0}, 16, false},
	} {
		right(t, api.Manifest{Size: []int{1}, Sum: []uint32{2}, Homes: [][]int{at.homes}}, 1, at.n, at.want)
		// Each part's homes count, also the last one's.
		first := upTo(16)[1:]
		for len(first) < at.n {
			first = append(first, 16)
		}
		m := api.Manifest{Size: []int{1, 1}, Sum: []uint32{2, 2}, Homes: [][]int{first[:at.n], at.homes}}
		right(t, m, 2, at.n, at.want)
		slices.Reverse(m.Homes)
		right(t, m, 2, at.n, at.want)
	}
}

// unlikeLists are manifests whose lists aren't as long.
func unlikeLists() []api.Manifest {
	var l []api.Manifest
	for _, longer := range []bool{false, true} {
		for list := range 3 {
			m := base()
			switch {
			case list == 0 && longer:
				m.Size = append(m.Size, 0)
			case list == 0:
				m.Size = m.Size[:1]
			case list == 1 && longer:
				m.Sum = append(m.Sum, 0)
			case list == 1:
				m.Sum = m.Sum[:1]
			case longer:
				m.Homes = append(m.Homes, []int{1, 2, 3})
			default:
				m.Homes = m.Homes[:1]
			}
			l = append(l, m)
		}
	}
	return append(l, api.Manifest{Size: []int{1}}, api.Manifest{Sum: []uint32{1}}, api.Manifest{Homes: [][]int{{}}}, api.Manifest{Size: []int{1}, Sum: []uint32{1}})
}

func TestRightOfListsThatAreNotAsLong(t *testing.T) {
	for _, m := range unlikeLists() {
		for parts := range 4 {
			for n := range 4 {
				right(t, m, parts, n, false)
			}
		}
	}
}

func TestRightOfManyParts(t *testing.T) {
	chance := chance(6)
	m := chance.manifest(5000, 3)
	right(t, m, 5000, 3, true)
	right(t, m, 4999, 3, false)
	right(t, m, 5001, 3, false)
	m.Homes[4999][2] = 17
	right(t, m, 5000, 3, false)
	m = chance.manifest(1, 1)
	m.Homes[0] = upTo(1 << 20)[1:]
	right(t, m, 1, 1<<20-1, false)
}

// spoilt is a manifest of chance with up to two faults, or edges.
func (c *chance) spoilt(parts, n int) api.Manifest {
	m := c.manifest(parts, n)
	for range c.below(3) {
		switch c.below(8) {
		case 0:
			m.Task = c.number()
		case 1:
			m.Attempt = c.number()
		case 2:
			m.Size = append(m.Size, 0)
		case 3:
			m.Sum = append(m.Sum, farSum)
		case 4:
			m.Homes = append(m.Homes, c.homes(n))
		case 5, 6:
			if len(m.Size) > 0 {
				m.Size[c.below(len(m.Size))] = c.number()
			}
		default:
			if len(m.Homes) > 0 {
				i := c.below(len(m.Homes))
				m.Homes[i] = append(m.Homes[i][:c.below(len(m.Homes[i])+1)], c.number())
			}
		}
	}
	return m
}

func TestRightOfManifestsOfChance(t *testing.T) {
	chance := chance(7)
	met := map[bool]int{}
	for range 30000 {
		parts, n := chance.below(4), chance.below(5)
		m := chance.spoilt(parts, n)
		want := slowRight(m, parts, n)
		right(t, m, parts, n, want)
		met[want]++
	}
	if met[true] < 1000 || met[false] < 1000 {
		t.Errorf("met are %v", met)
	}
}

// 16.2: Make

func TestMake(t *testing.T) {
	m := Make(3, 200, []string{"rye", "", "123456789"}, [][]int{{1, 4}, {4, 2}, {16, 1}})
	want := api.Manifest{Task: 3, Attempt: 200, Size: []int{3, 0, 9}, Sum: []uint32{crc32.ChecksumIEEE([]byte("rye")), 0, 0xcbf43926}, Homes: [][]int{{1, 4}, {4, 2}, {16, 1}}}
	if !slowSame(m, want) {
		t.Errorf("Make = %v, want %v", m, want)
	}
	right(t, m, 3, 2, true)
	if m := Make(0, 0, nil, nil); !slowSame(m, api.Manifest{}) {
		t.Errorf("Make = %v", m)
	}
	if m := Make(1, 2, []string{}, [][]int{}); !slowSame(m, api.Manifest{Task: 1, Attempt: 2}) {
		t.Errorf("Make = %v", m)
	}
}

func TestMakeOfChance(t *testing.T) {
	chance := chance(8)
	for range 2000 {
		parts, n := chance.below(20), chance.below(17)
		want := chance.manifest(parts, n)
		var spills []string
		for i := range parts {
			spills = append(spills, chance.text(chance.below(50)))
			want.Size[i], want.Sum[i] = len(spills[i]), crc32.ChecksumIEEE([]byte(spills[i]))
		}
		if m := Make(want.Task, want.Attempt, spills, want.Homes); !slowSame(m, want) {
			t.Errorf("Make = %v, want %v", m, want)
		}
	}
}

// Make asks nothing: what it is handed stands in the manifest.
func TestMakeOfWhatIsNotRight(t *testing.T) {
	for _, n := range []int{-1, math.MinInt, math.MaxInt, most + 1} {
		m := Make(n, 7, nil, [][]int{{n}, nil, {}})
		if !slowSame(m, api.Manifest{Task: n, Attempt: 7, Homes: [][]int{{n}, {}, {}}}) {
			t.Errorf("Make = %v", m)
		}
		m = Make(7, n, []string{"a", "a"}, [][]int{{5, 5, 5, n}})
		sum := crc32.ChecksumIEEE([]byte("a"))
		if !slowSame(m, api.Manifest{Task: 7, Attempt: n, Size: []int{1, 1}, Sum: []uint32{sum, sum}, Homes: [][]int{{5, 5, 5, n}}}) {
			t.Errorf("Make = %v", m)
		}
		right(t, m, 2, 4, false)
	}
	if m := Make(0, 0, []string{strings.Repeat("\x00", large+1)}, [][]int{{1}}); m.Size[0] != large+1 || Right(m, 1, 1) {
		t.Errorf("Make = %v", m)
	}
}

// 16.2: Bytes

// lays says what a manifest's bytes are.
func lays(t *testing.T, m api.Manifest, want string) {
	t.Helper()
	if s := Bytes(m); s != want || s != slowBytes(m) {
		t.Errorf("Bytes(%v) = %s, want %s", m, clip(s), clip(want))
	}
}

func TestBytes(t *testing.T) {
	lays(t, api.Manifest{}, "\x00\x00\x00")
	lays(t, api.Manifest{Size: []int{}, Sum: []uint32{}, Homes: [][]int{}}, "\x00\x00\x00")
	lays(t, base(), "\x03\xc8\x01\x02"+"\x03\xff\xff\xff\xff\x0f\x03\x01\x10\x04"+"\x00\x00\x03\x04\x02\x07")
	lays(t, api.Manifest{Task: 300, Size: []int{5}, Sum: []uint32{128}, Homes: [][]int{nil}}, "\xac\x02\x00\x01\x05\x80\x01\x00")
	// Lists of homes need not be as long as each other.
	lays(t, api.Manifest{Size: []int{1, 1}, Sum: []uint32{2, 2}, Homes: [][]int{{}, {9, 9}}}, "\x00\x00\x02\x01\x02\x00\x01\x02\x02\x09\x09")
}

func TestBytesOfListsThatAreNotAsLong(t *testing.T) {
	for _, m := range unlikeLists() {
		lays(t, m, "")
	}
}

func TestBytesOfAllNumbers(t *testing.T) {
	for _, n := range []int{0, 1, 127, 128, 16383, 16384, most + 1, farSum + 1, farNum - 1, farNum, farNum + 1, 1 << 60, -1, -2, -farNum, math.MinInt, math.MinInt + 1, math.MaxInt} {
		for place := range 6 {
			m := base()
			*[]*int{&m.Task, &m.Attempt, &m.Size[0], &m.Size[1], &m.Homes[0][0], &m.Homes[1][2]}[place] = n
			lays(t, m, slowBytes(m))
			if has := n >= 0 && n <= farNum; (Bytes(m) != "") != has {
				t.Errorf("Bytes(%v) = %s", m, clip(Bytes(m)))
			}
		}
	}
}

func TestBytesOfManifestsOfChance(t *testing.T) {
	chance := chance(9)
	empty := 0
	for range 30000 {
		m := chance.spoilt(chance.below(5), chance.below(17))
		lays(t, m, slowBytes(m))
		if Bytes(m) == "" {
			empty++
			continue
		}
		reads(t, Bytes(m), m, api.OK)
	}
	if empty < 1000 || empty > 29000 {
		t.Errorf("%d have no bytes", empty)
	}
}

// 16.2: Read

func TestReadOfWhatWasLaid(t *testing.T) {
	chance := chance(10)
	for parts := range 17 {
		for n := range 17 {
			m := chance.manifest(parts, n)
			s := Bytes(m)
			reads(t, s, m, api.OK)
			for end := range len(s) {
				if e := readsAsTheRule(t, s[:end]); e != api.ErrShort && e != api.ErrLarge {
					t.Errorf("Read(%s) = %d", clip(s[:end]), e)
				}
			}
			reads(t, s+"\x00", api.Manifest{}, api.ErrForm)
			reads(t, s+"\xff", api.Manifest{}, api.ErrForm)
			reads(t, s+s, api.Manifest{}, api.ErrForm)
		}
	}
}

func TestReadOfNumbersFarOut(t *testing.T) {
	m := base()
	m.Task, m.Attempt, m.Size[1], m.Homes[0][1], m.Homes[1][2] = farNum, farNum, farNum, farNum, 0
	reads(t, slowBytes(m), m, api.OK)
	// What is read need not be right.
	right(t, m, 2, 3, false)
	m = base()
	m.Homes = [][]int{{}, {5, 5, 5, 5, 5, 5, 5, 5, 5, 5, 5, 5, 5, 5, 5, 5, 5, 5, 5}}
	reads(t, slowBytes(m), m, api.OK)
	m = api.Manifest{Size: make([]int, 3000), Sum: make([]uint32, 3000), Homes: make([][]int, 3000)}
	reads(t, slowBytes(m), m, api.OK)
}

func TestReadOfWhatEndsTooSoon(t *testing.T) {
	s := slowBytes(base())
	for end := range len(s) {
		reads(t, s[:end], api.Manifest{}, api.ErrShort)
	}
	reads(t, "", api.Manifest{}, api.ErrShort)
	reads(t, "\x00", api.Manifest{}, api.ErrShort)
	reads(t, "\x00\x00", api.Manifest{}, api.ErrShort)
	reads(t, "\x00\x00\x00", api.Manifest{}, api.OK)
}

// More than s has bytes is told at the number itself, as many as that isn't.
func TestReadOfTooMany(t *testing.T) {
	none := api.Manifest{}
	for size := 3; size < 300; size++ {
		fill := strings.Repeat("\x01", size)
		for _, n := range []int{size - 1, size, size + 1, size + 2, farNum} {
			// Parts, with the head's bytes in what is counted.
			head := "\x01\x01" + tape.Num(n)
			if len(head) > size {
				continue
			}
			s := head + fill[len(head):]
			e := readsAsTheRule(t, s)
			if (e == api.ErrLarge) != (n > size) {
				t.Errorf("Read(%s) = %d", clip(s), e)
			}
			// Homes of one.
			head = "\x01\x01\x01\x01\x01" + tape.Num(n)
			if len(head) > size {
				continue
			}
			s = head + fill[len(head):]
			e = readsAsTheRule(t, s)
			if (e == api.ErrLarge) != (n > size) {
				t.Errorf("Read(%s) = %d", clip(s), e)
			}
		}
	}
	reads(t, "\x00\x00\x03", none, api.ErrShort)
	reads(t, "\x00\x00\x04", none, api.ErrLarge)
	reads(t, "\x00\x00\x01\x00\x00\x06", none, api.ErrShort)
	reads(t, "\x00\x00\x01\x00\x00\x07", none, api.ErrLarge)
	// Also of a part behind others.
	reads(t, "\x00\x00\x02\x00\x00\x00\x00\x00\x0a", none, api.ErrLarge)
	reads(t, "\x00\x00\x02\x00\x00\x00\x00\x00\x09", none, api.ErrShort)
	reads(t, "\x00\x00"+tape.Num(1<<31), none, api.ErrLarge)
	reads(t, "\x00\x00\x01\x00\x00"+tape.Num(1<<31), none, api.ErrLarge)
}

func TestReadOfSums(t *testing.T) {
	m := api.Manifest{Size: []int{1, 2}, Sum: []uint32{0, farSum}, Homes: [][]int{{1}, {2}}}
	reads(t, "\x00\x00\x02\x01\x00\x01\x01\x02"+tape.Num(farSum)+"\x01\x02", m, api.OK)
	for _, sum := range []int{farSum + 1, farSum + 2, 1<<33 - 1, 1 << 33, 1 << 40, farNum} {
		for _, behind := range []string{"\x01\x02", "", "\x80", "\x7f", "\x01", "\x01\x02\x00", "\x01\x80\x00", strings.Repeat("\xff", 9)} {
			// It is told ahead of whatever stands behind it.
			reads(t, "\x00\x00\x02\x01\x00\x01\x01\x02"+tape.Num(sum)+behind, api.Manifest{}, api.ErrForm)
			reads(t, "\x00\x00\x01\x02"+tape.Num(sum)+behind, api.Manifest{}, api.ErrForm)
		}
		// A size above it is none.
		m.Size[0] = sum
		reads(t, slowBytes(m), m, api.OK)
	}
}

// faults are bytes of a number with an error, and the error.
func faults() map[string]api.Errno {
	return map[string]api.Errno{
		"":                                 api.ErrShort,
		"\x80":                             api.ErrShort,
		"\xff\xff\xff\xff\xff\xff\xff":     api.ErrShort,
		"\xff\xff\xff\xff\xff\xff\xff\xff": api.ErrForm,
		"\xff\xff\xff\xff\xff\xff\xff\x10": api.ErrForm,
		"\x80\x00":                         api.ErrForm,
		"\xff\x80\x00":                     api.ErrForm,
	}
}

// Each number's error comes ahead of the next one's.
func TestReadOfTwoFaults(t *testing.T) {
	numbers := []string{"\x03", "\xc8\x01", "\x02", "\x03", "\x04", "\x02", "\x01", "\x10", "\x05", "\x06", "\x01", "\x07"}
	reads(t, strings.Join(numbers, ""), api.Manifest{Task: 3, Attempt: 200, Size: []int{3, 5}, Sum: []uint32{4, 6}, Homes: [][]int{{1, 16}, {7}}}, api.OK)
	for i := range numbers {
		head := strings.Join(numbers[:i], "")
		for fault, e := range faults() {
			if e == api.ErrShort {
				// It is the end: nothing stands behind it.
				reads(t, head+fault, api.Manifest{}, e)
				continue
			}
			reads(t, head+fault+strings.Join(numbers[i+1:], ""), api.Manifest{}, e)
			for j := i + 1; j <= len(numbers); j++ {
				between := strings.Join(numbers[i+1:j], "")
				for other := range faults() {
					reads(t, head+fault+between+other, api.Manifest{}, e)
				}
				reads(t, head+fault+between+tape.Num(farNum), api.Manifest{}, e)
			}
		}
		// Too many of them, and a fault behind that.
		for j := i + 1; j <= len(numbers); j++ {
			for other := range faults() {
				readsAsTheRule(t, head+tape.Num(farNum)+strings.Join(numbers[i+1:j], "")+other)
				readsAsTheRule(t, head+tape.Num(100)+strings.Join(numbers[i+1:j], "")+other)
			}
		}
	}
}

func TestReadOfBytesChanged(t *testing.T) {
	for _, s := range []string{slowBytes(base()), "\x00\x00\x00", "\xac\x02\x00\x01\x05\x80\x01\x00", "\x00\x00\x02\x01\x02\x00\x01\x02\x02\x09\x09"} {
		for at := range len(s) + 1 {
			for b := range 256 {
				put := string([]byte{byte(b)})
				readsAsTheRule(t, s[:at]+put+s[at:])
				if at < len(s) {
					readsAsTheRule(t, s[:at]+put+s[at+1:])
				}
			}
			if at < len(s) {
				readsAsTheRule(t, s[:at]+s[at+1:])
			}
			readsAsTheRule(t, s[at:])
		}
	}
}

func TestReadOfAllShortTexts(t *testing.T) {
	alphabet := []byte{0, 1, 2, 9, 128}
	met := map[api.Errno]int{}
	var all func(s []byte, left int)
	all = func(s []byte, left int) {
		met[readsAsTheRule(t, string(s))]++
		if left == 0 {
			return
		}
		for _, b := range alphabet {
			all(append(s, b), left-1)
		}
	}
	all(nil, 8)
	for _, e := range []api.Errno{api.OK, api.ErrShort, api.ErrLarge, api.ErrForm} {
		if met[e] < 100 {
			t.Errorf("%d is met %d times", e, met[e])
		}
	}
}

func TestReadOfTextsOfChance(t *testing.T) {
	chance := chance(11)
	met := map[api.Errno]int{}
	for range 60000 {
		s := chance.text(chance.below(3)) + "\x01\x02" + tape.Num(chance.below(4))
		for range chance.below(5) {
			switch chance.below(12) {
			default:
				s += tape.Num(chance.below(40000)) + tape.Num(chance.below(40000)) + "\x02" + tape.Num(chance.below(16)) + "\x03"
			case 0:
				s += tape.Num(chance.number())
			case 1:
				s += chance.text(chance.below(6))
			}
		}
		if chance.below(10) == 0 {
			s = s[:chance.below(len(s))]
		}
		e := readsAsTheRule(t, s)
		met[e]++
		if m, _ := Read(s); e == api.OK && Bytes(m) != s {
			t.Errorf("%s is read, but its bytes are %s", clip(s), clip(Bytes(m)))
		}
	}
	for _, e := range []api.Errno{api.OK, api.ErrShort, api.ErrLarge, api.ErrForm} {
		if met[e] < 100 {
			t.Errorf("%d is met %d times", e, met[e])
		}
	}
}

func TestReadOfVeryLongTexts(t *testing.T) {
	long := 1 << 20
	reads(t, strings.Repeat("\xff", long), api.Manifest{}, api.ErrForm)
	reads(t, strings.Repeat("\x00", long), api.Manifest{}, api.ErrForm)
	readsAsTheRule(t, strings.Repeat("\x01", long))
	readsAsTheRule(t, "\x00\x00"+tape.Num(long)+strings.Repeat("\x00", long))
	readsAsTheRule(t, "\x00\x00"+tape.Num(long)+strings.Repeat("\x00", 3*long))
	readsAsTheRule(t, "\x00\x00\x01\x00\x00"+tape.Num(long)+strings.Repeat("\x07", long))
}

// 16.2: Same

func TestSame(t *testing.T) {
	same(t, api.Manifest{}, api.Manifest{}, true)
	same(t, base(), base(), true)
	same(t, base(), api.Manifest{}, false)
	// A list without elements may be nil or not.
	same(t, api.Manifest{Size: []int{}, Sum: []uint32{}, Homes: [][]int{}}, api.Manifest{}, true)
	same(t, api.Manifest{Homes: [][]int{nil, {1}}}, api.Manifest{Homes: [][]int{{}, {1}}}, true)
	same(t, api.Manifest{Homes: [][]int{nil}}, api.Manifest{}, false)
	for i, change := range []func(m *api.Manifest){
		func(m *api.Manifest) { m.Task++ },
		func(m *api.Manifest) { m.Task = -m.Task },
		func(m *api.Manifest) { m.Task += 1 << 32 },
		func(m *api.Manifest) { m.Attempt-- },
		func(m *api.Manifest) { m.Task, m.Attempt = m.Attempt, m.Task },
		func(m *api.Manifest) { m.Size[0]++ },
		func(m *api.Manifest) { m.Size[1] = -1 },
		func(m *api.Manifest) { m.Size = m.Size[:1] },
		func(m *api.Manifest) { m.Size = append(m.Size, 0) },
		func(m *api.Manifest) { m.Size = nil },
		func(m *api.Manifest) { slices.Reverse(m.Size) },
		func(m *api.Manifest) { m.Sum[0]++ },
		func(m *api.Manifest) { m.Sum[1] = 1 },
		func(m *api.Manifest) { m.Sum = m.Sum[:1] },
		func(m *api.Manifest) { m.Sum = append(m.Sum, 0) },
		func(m *api.Manifest) { m.Sum = nil },
		func(m *api.Manifest) { slices.Reverse(m.Sum) },
		func(m *api.Manifest) { m.Homes[0][0] = 2 },
		func(m *api.Manifest) { m.Homes[1][2] = 0 },
		func(m *api.Manifest) { m.Homes[0] = m.Homes[0][:2] },
		func(m *api.Manifest) { m.Homes[1] = append(m.Homes[1], 1) },
		func(m *api.Manifest) { m.Homes[1] = nil },
		func(m *api.Manifest) { m.Homes = m.Homes[:1] },
		func(m *api.Manifest) { m.Homes = append(m.Homes, nil) },
		func(m *api.Manifest) { m.Homes = nil },
		func(m *api.Manifest) { slices.Reverse(m.Homes) },
		func(m *api.Manifest) { slices.Reverse(m.Homes[0]) },
		func(m *api.Manifest) { m.Homes = [][]int{{1}, {16, 4, 4, 2, 7}} },
	} {
		m := base()
		change(&m)
		if slowSame(base(), m) {
			t.Errorf("the change %d is none", i)
		}
		same(t, base(), m, false)
		same(t, own(m), m, true)
	}
}

func TestSameOfManifestsOfChance(t *testing.T) {
	chance := chance(12)
	met := map[bool]int{}
	for range 20000 {
		parts, n := chance.below(3), chance.below(3)
		a := api.Manifest{Task: chance.below(2), Attempt: chance.below(2)}
		for range parts {
			a.Size = append(a.Size, chance.below(2))
			a.Sum = append(a.Sum, uint32(chance.below(2)))
			a.Homes = append(a.Homes, chance.homes(n))
		}
		b := own(a)
		if parts > 0 && chance.below(2) == 0 {
			b.Size[chance.below(parts)] = chance.below(2)
			b.Sum[chance.below(parts)] = uint32(chance.below(2))
			b.Homes[chance.below(parts)] = chance.homes(n)
		}
		want := slowSame(a, b)
		same(t, a, b, want)
		met[want]++
	}
	if met[true] < 1000 || met[false] < 1000 {
		t.Errorf("met are %v", met)
	}
}

// 16.3

// burst is a text with bits changed from a place on, 8 to a byte, the lowest first.
func burst(s string, from int, bits uint32) string {
	b := []byte(s)
	for i := range 32 {
		if at := from + i; bits>>i&1 == 1 && at < 8*len(b) {
			b[at/8] ^= 1 << (at % 8)
		}
	}
	return string(b)
}

// Where the data pieces are read, each burst in what is of the spill is told; in the zero bytes behind it, it isn't of the spill.
func TestBurstsInDataPieces(t *testing.T) {
	chance := chance(13)
	for _, sizes := range [][2]int{{1, 1}, {2, 3}, {3, 5}, {4, 4}} {
		c := made(t, sizes[0], sizes[1])
		for _, spill := range []string{"rye", "ten sheaves a stook", chance.text(61)} {
			l, sum := cut(t, c, spill), crc32.ChecksumIEEE([]byte(spill))
			p := pick(l, upTo(sizes[0]))
			for i := range p {
				for from := range 8 * len(l[i]) {
					for _, bits := range []uint32{1, 3, 0x80000001, farSum, 0xedb88320, 0x1a99ff86, uint32(chance.below(65536))<<16 + 1} {
						p[i].Text = burst(l[i], from, bits)
						want, e := spill, api.OK
						if at := i * len(l[i]); at < len(spill) && strings.Join(textsOf(p), "")[:len(spill)] != spill {
							want, e = "", api.ErrCrc
						}
						joins(t, c, p, len(spill), sum, want, e)
					}
				}
				p[i].Text = l[i]
			}
		}
	}
}

// textsOf is the texts of pieces.
func textsOf(l []coder.Piece) []string {
	var texts []string
	for _, piece := range l {
		texts = append(texts, piece.Text)
	}
	return texts
}

// A byte that was spoilt, whichever pieces are read, is told, unless only zero bytes behind the spill come out otherwise.
func TestBytesSpoiltInAnyPieces(t *testing.T) {
	chance := chance(14)
	spill := "ten sheaves a stook, and the stubble's left"
	sum := crc32.ChecksumIEEE([]byte(spill))
	for n := 1; n <= 6; n++ {
		for k := 1; k <= n; k++ {
			c := made(t, k, n)
			l := cut(t, c, spill)
			for range 6 {
				p := pick(l, chance.order(n)[:k])
				for i := range p {
					whole := p[i].Text
					for at := range len(whole) {
						for by := 1; by < 256; by += 1 + chance.below(9) {
							p[i].Text = burst(whole, 8*at, uint32(by))
							joinsAsTheRule(t, c, p, len(spill), sum)
							texts, _ := c.Read(p)
							if s, e := Join(c, p, len(spill), sum); e == api.OK && strings.Join(texts, "")[:len(spill)] != spill {
								t.Errorf("%d of %d: Join(%s) = %s", k, n, clip(p), clip(s))
							}
						}
					}
					p[i].Text = whole
				}
			}
		}
	}
}

// Pieces of unlike spills, or under another's number, make no spill.
func TestPiecesOfOtherStripes(t *testing.T) {
	c := made(t, 2, 4)
	a, b := "rye and oats", "rye and corn"
	l, k := cut(t, c, a), cut(t, c, b)
	sum := crc32.ChecksumIEEE([]byte(a))
	joins(t, c, []coder.Piece{{At: 0, Text: l[0]}, {At: 1, Text: k[1]}}, len(a), sum, "", api.ErrCrc)
	joins(t, c, []coder.Piece{{At: 2, Text: k[2]}, {At: 3, Text: l[3]}}, len(a), sum, "", api.ErrCrc)
	joins(t, c, pick(k, []int{0, 3}), len(a), sum, "", api.ErrCrc)
	joins(t, c, []coder.Piece{{At: 1, Text: l[0]}, {At: 0, Text: l[1]}}, len(a), sum, "", api.ErrCrc)
	joins(t, c, []coder.Piece{{At: 2, Text: l[3]}, {At: 3, Text: l[2]}}, len(a), sum, "", api.ErrCrc)
	joins(t, made(t, 1, 4), pick(l, []int{0}), len(a), sum, "", api.ErrForm)
	joins(t, made(t, 2, 2), pick(l, []int{0, 2}), len(a), sum, "", api.ErrArg)
}

// Rule 4: what is handed in isn't changed or kept, what is handed out is new memory.

// shares tells whether two texts share memory.
func shares(a, b string) bool {
	if a == "" || b == "" {
		return false
	}
	from, other := uintptr(unsafe.Pointer(unsafe.StringData(a))), uintptr(unsafe.Pointer(unsafe.StringData(b)))
	return from < other+uintptr(len(b)) && other < from+uintptr(len(a))
}

// view is bytes as a text that changes with them.
func view(b []byte) string { return unsafe.String(unsafe.SliceData(b), len(b)) }

func TestTextsHandedOutAreNew(t *testing.T) {
	for _, sizes := range [][2]int{{1, 1}, {1, 3}, {2, 3}, {3, 3}} {
		c := made(t, sizes[0], sizes[1])
		for _, spill := range []string{"ten sheaves!", "ten sheaves a"} {
			spill = strings.Clone(spill)
			l, k := cut(t, c, spill), cut(t, c, spill)
			sum := crc32.ChecksumIEEE([]byte(spill))
			p := pick(l, upTo(sizes[0]))
			a, _ := Join(c, p, len(spill), sum)
			b, _ := Join(c, p, len(spill), sum)
			all := append(append([]string{spill, a, b, Bytes(base()), Bytes(base())}, l...), k...)
			for i, s := range all {
				for _, other := range all[:i] {
					if shares(s, other) {
						t.Errorf("%v: %s and %s share memory", sizes, clip(s), clip(other))
					}
				}
			}
			l[0] = "changed"
			if a != spill || b != spill || k[0] == "changed" {
				t.Errorf("%v: it is %s, %s now", sizes, clip(a), clip(k))
			}
		}
	}
}

func TestTextsHandedInAreNotKept(t *testing.T) {
	c := made(t, 2, 3)
	spill := []byte("ten sheaves a stook")
	l := cut(t, c, view(spill))
	want := slices.Clone(l)
	for i := range l {
		want[i] = strings.Clone(l[i])
	}
	piece := []byte(l[2])
	p := []coder.Piece{{At: 2, Text: view(piece)}, {At: 0, Text: l[0]}}
	s, _ := Join(c, p, len(spill), crc32.ChecksumIEEE(spill))
	m := Make(1, 2, []string{view(spill)}, nil)
	laid := []byte(slowBytes(base()))
	read, _ := Read(view(laid))
	if string(spill) != "ten sheaves a stook" || string(piece) != want[2] || string(laid) != slowBytes(base()) {
		t.Errorf("it is %s, %s, %s now", clip(spill), clip(piece), clip(laid))
	}
	sum := crc32.ChecksumIEEE(spill)
	clear(spill)
	clear(piece)
	clear(laid)
	if !slices.Equal(l, want) || s != "ten sheaves a stook" || m.Sum[0] != sum || !slowSame(read, base()) {
		t.Errorf("it is %s, %s, %v, %v now", clip(l), clip(s), m, read)
	}
}

// fill writes into all that a manifest has, spare room included.
func fill(m api.Manifest) {
	for i := range m.Homes[:cap(m.Homes)] {
		homes := m.Homes[:cap(m.Homes)][i]
		homes = homes[:cap(homes)]
		for j := range homes {
			homes[j] = -7
		}
		m.Homes[:cap(m.Homes)][i] = []int{-8}
	}
	for i := range m.Size[:cap(m.Size)] {
		m.Size[:cap(m.Size)][i] = -9
	}
	for i := range m.Sum[:cap(m.Sum)] {
		m.Sum[:cap(m.Sum)][i] = 10
	}
}

func TestManifestsHandedOutAreNew(t *testing.T) {
	homes := [][]int{{1, 2, 3}, {}, {4, 5, 6}, {7, 8, 9}}
	spills := []string{"a", "", "b", "c"}
	a, b := Make(1, 2, spills, homes), Make(1, 2, spills, homes)
	want := own(a)
	s := Bytes(a)
	c, _ := Read(s)
	d, _ := Read(s)
	fill(a)
	fill(c)
	if !slowSame(b, want) || !slowSame(d, want) || fmt.Sprint(homes) != "[[1 2 3] [] [4 5 6] [7 8 9]]" || !slices.Equal(spills, []string{"a", "", "b", "c"}) {
		t.Errorf("it is %v, %v, %v now", b, d, homes)
	}
	for _, l := range homes {
		clear(l)
	}
	if !slowSame(b, want) {
		t.Errorf("it is %v now", b)
	}
}

// No two lists of one manifest share memory: what is added to one isn't seen in another.
func TestListsOfOneManifestAreApart(t *testing.T) {
	room := []int{1, 2, 3, 4, 5, 6, 7, 8}
	homes := [][]int{room[0:2], room[2:4], room[0:2], room[4:4], room[1:6]}
	read, _ := Read("\x01\x02\x05" + "\x01\x01\x02\x01\x02" + "\x01\x01\x02\x03\x04" + "\x01\x01\x02\x01\x02" + "\x01\x01\x00" + "\x01\x01\x05\x02\x03\x04\x05\x06")
	for _, m := range []api.Manifest{Make(1, 2, []string{"a", "b", "c", "d", "e"}, homes), read} {
		want := own(m)
		for i, l := range m.Homes {
			m.Homes[i] = nil
			l = l[:cap(l)]
			for j := range l {
				l[j] = -7
			}
			want.Homes[i] = nil
			if !slowSame(m, want) {
				t.Errorf("behind a change of list %d it is %v, want %v", i, m, want)
			}
		}
	}
	if !slices.Equal(room, []int{1, 2, 3, 4, 5, 6, 7, 8}) {
		t.Errorf("what was handed in is %v now", room)
	}
}

func TestManifestsHandedInAreNotChanged(t *testing.T) {
	m, other := base(), base()
	spare := make([]int, 3, 9)
	copy(spare, m.Homes[0])
	spare[:9][5] = 77
	m.Homes[0] = spare
	for range 3 {
		Right(m, 2, 3)
		Bytes(m)
		Same(m, other)
		Same(other, m)
	}
	if !slowSame(m, base()) || !slowSame(other, base()) || spare[:9][5] != 77 || spare[:9][3] != 0 {
		t.Errorf("it is %v, %v, %v now", m, other, spare[:9])
	}
	c := made(t, 2, 3)
	p := pick(cut(t, c, "rye and oats"), []int{2, 1})
	want := slices.Clone(p)
	Join(c, p, 12, 0)
	if !slices.Equal(p, want) {
		t.Errorf("the pieces are %v now", p)
	}
}
