package crc

import (
	"hash/crc32"
	"strings"
	"testing"

	"stook/api"
)

// chance is a row of numbers that looks like chance and is the same each time.
type chance uint32

func (c *chance) below(n int) int {
	*c = *c*1664525 + 1013904223
	return int(*c>>16) % n
}

// bits is 32 bits of chance.
func (c *chance) bits() uint32 {
	return uint32(c.below(1<<16))<<16 | uint32(c.below(1<<16))
}

// text is a text of chance, of so many bytes.
func (c *chance) text(size int) string {
	text := make([]byte, size)
	for i := range text {
		text[i] = byte(c.below(256))
	}
	return string(text)
}

// slowSteps is the eight steps, as the chapter says them.
func slowSteps(n uint32) uint32 {
	for range 8 {
		lowest := n % 2
		n /= 2
		if lowest == 1 {
			n ^= 0xedb88320
		}
	}
	return n
}

// slowSum is the sum as the chapter says it, without any table.
func slowSum(s string) uint32 {
	n := uint32(0xffffffff)
	for _, b := range []byte(s) {
		n = slowSteps(n ^ uint32(b))
	}
	return n ^ 0xffffffff
}

// slowSeal is a sealed text, its last four bytes written out.
func slowSeal(s string) string {
	n := slowSum(s)
	return s + string([]byte{byte(n), byte(n >> 8), byte(n >> 16), byte(n >> 24)})
}

// samples is texts of all lengths up to a bit beyond two tables, and some of bytes that are easily taken wrong.
func samples() []string {
	var ch chance
	l := []string{
		"a", "abc", "123456789", "\x00", "\xff", "\x80", "\x7f", "\n", "\r\n", "ä", "€", "\xc3", "\xed\xa0\x80",
		strings.Repeat("\x00", 4), strings.Repeat("\xff", 4), strings.Repeat("\x00", 300), strings.Repeat("\xff", 300),
	}
	for size := range 70 {
		l = append(l, ch.text(size))
	}
	return append(l, ch.text(255), ch.text(256), ch.text(257), ch.text(600), ch.text(4096))
}

// flip turns those bits of a text, counted from its beginning on, 8 to a byte, the lowest first, that are set in a pattern.
func flip(s string, from int, pattern uint32) string {
	text := []byte(s)
	for i := range 32 {
		if pattern>>i&1 == 1 {
			text[(from+i)/8] ^= 1 << ((from + i) % 8)
		}
	}
	return string(text)
}

// madeOne is the exclusive or of texts that are as long.
func madeOne(l ...string) string {
	one := make([]byte, len(l[0]))
	for _, text := range l {
		for i := range one {
			one[i] ^= text[i]
		}
	}
	return string(one)
}

func opensAs(t *testing.T, s, want string) {
	t.Helper()
	if got, e := Open(s); e != api.OK || got != want {
		t.Errorf("Open(%q) = %q, %d, want %q", s, got, e, want)
	}
}

func openFails(t *testing.T, s string, want api.Errno) {
	t.Helper()
	if got, e := Open(s); e != want || got != "" {
		t.Errorf("Open(%q) = %q, %d, want %d", s, got, e, want)
	}
}

// 4.1: Sum

func TestSumOfKnownTexts(t *testing.T) {
	for s, want := range map[string]uint32{
		"":                 0,
		"a":                0xe8b7be43,
		"abc":              0x352441c2,
		"123456789":        0xcbf43926,
		"\x00":             0xd202ef8d,
		"\xff":             0xff000000,
		"\x00\x00\x00\x00": 0x2144df1c,
		"\xff\xff\xff\xff": 0xffffffff,
		"The quick brown fox jumps over the lazy dog": 0x414fa339,
	} {
		if got := Sum(s); got != want {
			t.Errorf("Sum(%q) = %#x, want %#x", s, got, want)
		}
	}
}

func TestSumIsAsTheChapterSays(t *testing.T) {
	for _, s := range samples() {
		if got, want := Sum(s), slowSum(s); got != want {
			t.Errorf("Sum(%q) = %#x, want %#x", s, got, want)
		}
		if got, want := Sum(s), crc32.ChecksumIEEE([]byte(s)); got != want {
			t.Errorf("Sum(%q) = %#x, the library's %#x", s, got, want)
		}
	}
}

func TestSumOfEachByteAndOfTwo(t *testing.T) {
	for a := range 256 {
		if s := string([]byte{byte(a)}); Sum(s) != slowSum(s) {
			t.Errorf("Sum(%q) = %#x, want %#x", s, Sum(s), slowSum(s))
		}
		for b := 0; b < 256; b += 5 {
			if s := string([]byte{byte(a), byte(b)}); Sum(s) != slowSum(s) {
				t.Errorf("Sum(%q) = %#x, want %#x", s, Sum(s), slowSum(s))
			}
		}
	}
}

func TestSumOfALongText(t *testing.T) {
	var ch chance
	s := ch.text(1 << 20)
	if got, want := Sum(s), crc32.ChecksumIEEE([]byte(s)); got != want {
		t.Errorf("Sum of a long text = %#x, want %#x", got, want)
	}
}

// 4.1: More

func TestMoreOfATextCutAtEachPlace(t *testing.T) {
	for _, s := range samples() {
		want := slowSum(s)
		for cut := range len(s) + 1 {
			if got := More(Sum(s[:cut]), s[cut:]); got != want {
				t.Fatalf("More of %q, cut at %d = %#x, want %#x", s, cut, got, want)
			}
		}
	}
	if got := More(Sum("1234"), "56789"); got != 0xcbf43926 {
		t.Errorf("More = %#x", got)
	}
}

func TestMoreOfATextInManyParts(t *testing.T) {
	s := "stook\x00and\xffstack, in three"
	want := slowSum(s)
	for i := range len(s) + 1 {
		for j := i; j <= len(s); j++ {
			if got := More(More(Sum(s[:i]), s[i:j]), s[j:]); got != want {
				t.Errorf("More of %q, cut at %d and %d = %#x, want %#x", s, i, j, got, want)
			}
		}
	}
	for _, s := range samples() {
		var sum uint32
		for i := range len(s) {
			sum = More(sum, s[i:i+1])
			sum = More(sum, "")
		}
		if sum != slowSum(s) {
			t.Errorf("More of %q, byte by byte = %#x, want %#x", s, sum, slowSum(s))
		}
	}
}

func TestMoreOfNothing(t *testing.T) {
	for _, s := range samples() {
		if got := More(Sum(s), ""); got != slowSum(s) {
			t.Errorf("More of nothing behind %q = %#x, want %#x", s, got, slowSum(s))
		}
		if got := More(Sum(""), s); got != slowSum(s) {
			t.Errorf("More of %q behind nothing = %#x, want %#x", s, got, slowSum(s))
		}
	}
	if got := More(0, ""); got != 0 {
		t.Errorf("More of nothing behind nothing = %#x", got)
	}
}

func TestMoreOfWhateverSum(t *testing.T) {
	// Each number is the sum of some text: none is refused, or taken for another one.
	var ch chance
	for _, sum := range []uint32{0, 1, 0x7fffffff, 0x80000000, 0xffffffff, 0xfffffffe, 0xedb88320, ch.bits(), ch.bits()} {
		if got := More(sum, ""); got != sum {
			t.Errorf("More(%#x, nothing) = %#x", sum, got)
		}
		for _, s := range samples() {
			if got, want := More(sum, s), crc32.Update(sum, crc32.IEEETable, []byte(s)); got != want {
				t.Errorf("More(%#x, %q) = %#x, want %#x", sum, s, got, want)
			}
		}
	}
}

// 4.1: Table

func TestTableIsWhatBytesComeTo(t *testing.T) {
	table := Table()
	for i, got := range table {
		if want := slowSteps(uint32(i)); got != want {
			t.Errorf("the place %d of the table = %#x, want %#x", i, got, want)
		}
		if want := crc32.IEEETable[i]; got != want {
			t.Errorf("the place %d of the table = %#x, the library's %#x", i, got, want)
		}
	}
	for i, want := range map[int]uint32{0: 0, 1: 0x77073096, 128: 0xedb88320, 255: 0x2d02ef8d} {
		if table[i] != want {
			t.Errorf("the place %d of the table = %#x, want %#x", i, table[i], want)
		}
	}
}

func TestTableIsItsOwn(t *testing.T) {
	table := Table()
	for i := range table {
		table[i] = 0xbad
	}
	if again := Table(); again[1] != 0x77073096 || again[0] != 0 {
		t.Errorf("the table is %#x, %#x", again[0], again[1])
	}
	if got := Sum("123456789"); got != 0xcbf43926 {
		t.Errorf("Sum = %#x", got)
	}
}

// 4.2: Seal

func TestSealOfKnownTexts(t *testing.T) {
	for s, want := range map[string]string{
		"":          "\x00\x00\x00\x00",
		"a":         "a\x43\xbe\xb7\xe8",
		"abc":       "abc\xc2\x41\x24\x35",
		"123456789": "123456789\x26\x39\xf4\xcb",
		"\xff":      "\xff\x00\x00\x00\xff",
	} {
		if got := Seal(s); got != want {
			t.Errorf("Seal(%q) = %q, want %q", s, got, want)
		}
	}
}

func TestSealPutsTheSumBehind(t *testing.T) {
	for _, s := range samples() {
		if got := Seal(s); got != slowSeal(s) {
			t.Errorf("Seal(%q) = %q, want %q", s, got, slowSeal(s))
		}
	}
}

// 4.2: Open

func TestOpenOfSealedTexts(t *testing.T) {
	for _, s := range samples() {
		opensAs(t, Seal(s), s)
		opensAs(t, slowSeal(s), s)
		opensAs(t, slowSeal(slowSeal(s)), slowSeal(s))
	}
	opensAs(t, Seal(""), "")
	opensAs(t, "\x00\x00\x00\x00", "")
	opensAs(t, "abc\xc2\x41\x24\x35", "abc")
}

func TestOpenOfFewerThanFourBytes(t *testing.T) {
	for _, s := range []string{"", "a", "\x00", "\xff", "ab", "\x00\x00", "\xff\xff", "abc", "\x00\x00\x00", "\xff\xff\xff", "ä", "€"} {
		openFails(t, s, api.ErrShort)
	}
	for a := range 256 {
		s := string([]byte{byte(a), byte(a), byte(a)})
		for size := range 4 {
			openFails(t, s[:size], api.ErrShort)
		}
	}
}

func TestOpenOfJustFourBytes(t *testing.T) {
	opensAs(t, "\x00\x00\x00\x00", "")
	for place := range 4 {
		for b := 1; b < 256; b++ {
			s := make([]byte, 4)
			s[place] = byte(b)
			openFails(t, string(s), api.ErrCrc)
		}
	}
	for _, s := range []string{"abcd", "\xff\xff\xff\xff", "\xf0\x9f\x8c\xbe"} {
		openFails(t, s, api.ErrCrc)
	}
}

func TestOpenOfAChangedByte(t *testing.T) {
	for _, s := range []string{"", "a", "abcd", "123456789", "\x00\x00\x00", "\xff\xff\xff\xff\xff"} {
		sealed := slowSeal(s)
		for place := range len(sealed) {
			for change := 1; change < 256; change++ {
				spoilt := []byte(sealed)
				spoilt[place] ^= byte(change)
				openFails(t, string(spoilt), api.ErrCrc)
			}
		}
	}
	for _, s := range samples() {
		sealed := slowSeal(s)
		for place := range len(sealed) {
			spoilt := []byte(sealed)
			spoilt[place]++
			openFails(t, string(spoilt), api.ErrCrc)
		}
	}
}

func TestOpenOfATextThatEndsElsewhere(t *testing.T) {
	for _, s := range []string{"a", "abc", "123456789", "stook and stack"} {
		sealed := slowSeal(s)
		for cut := range len(sealed) {
			want := api.ErrCrc
			if cut < 4 {
				want = api.ErrShort
			}
			openFails(t, sealed[:cut], want)
		}
		openFails(t, sealed+"\x00", api.ErrCrc)
		openFails(t, "\x00"+sealed, api.ErrCrc)
		openFails(t, sealed[1:], api.ErrCrc)
		openFails(t, s, openError(s))
	}
}

// openError is what a text is refused with that isn't sealed.
func openError(s string) api.Errno {
	if len(s) < 4 {
		return api.ErrShort
	}
	return api.ErrCrc
}

func TestOpenOfTheSumInAnotherOrder(t *testing.T) {
	openFails(t, "123456789\xcb\xf4\x39\x26", api.ErrCrc)
	openFails(t, "\x26\x39\xf4\xcb123456789", api.ErrCrc)
	// The sum without its bits turned at the end.
	openFails(t, "123456789\xd9\xc6\x0b\x34", api.ErrCrc)
	// Four bytes that leave nothing of the whole's number: the whole's own sum is 0 then.
	for _, s := range []string{"", "a", "abc"} {
		n := ^slowSum(s)
		openFails(t, s+string([]byte{byte(n), byte(n >> 8), byte(n >> 16), byte(n >> 24)}), api.ErrCrc)
	}
}

func TestOpenOfTextsOfChance(t *testing.T) {
	var ch chance
	for range 20000 {
		s := ch.text(ch.below(12))
		if len(s) >= 4 && slowSeal(s[:len(s)-4]) == s {
			opensAs(t, s, s[:len(s)-4])
		} else {
			openFails(t, s, openError(s))
		}
	}
}

// 4.3: changes within 32 bits side by side

// patterns is changes within 32 bits: each bit, each two, each row of bits, all but one, and some of chance.
func patterns() []uint32 {
	var l []uint32
	for i := range 32 {
		l = append(l, 1<<i, ^(1 << i))
		for j := range i {
			l = append(l, 1<<i|1<<j, 1<<i-1<<j)
		}
	}
	var ch chance
	for range 200 {
		// A nought changes nothing.
		l = append(l, ch.bits()|1<<ch.below(32))
	}
	return append(l, 0xffffffff, 0xedb88320, 0xdb710641)
}

func TestAChangeWithin32BitsChangesTheSum(t *testing.T) {
	for _, s := range []string{"stook", "\x00\x00\x00\x00\x00\x00\x00", "\xff\xff\xff\xff", "123456789, and on"} {
		sum := Sum(s)
		// From the first bit to the last 32, whole bytes or not.
		for from := range 8*len(s) - 31 {
			for _, pattern := range patterns() {
				if changed := flip(s, from, pattern); Sum(changed) == sum {
					t.Errorf("Sum(%q), bits %#x from %d on changed, is the same", s, pattern, from)
				}
			}
		}
	}
}

func TestAChangeOfATextOfFewerThan32Bits(t *testing.T) {
	for _, s := range []string{"a", "\x00", "\xff", "ab"} {
		for pattern := uint32(1); pattern < 1<<(8*len(s)); pattern++ {
			if changed := flip(s, 0, pattern); Sum(changed) == Sum(s) {
				t.Errorf("Sum(%q) is that of %q", changed, s)
			}
		}
	}
	for pattern := uint32(1); pattern < 1<<24; pattern += 37 {
		if changed := flip("abc", 0, pattern); Sum(changed) == Sum("abc") {
			t.Errorf("Sum(%q) is that of abc", changed)
		}
	}
}

func TestAChangeAtBothEndsOfALongText(t *testing.T) {
	var ch chance
	s := ch.text(4096)
	sum := Sum(s)
	for _, from := range []int{0, 1, 7, 8*len(s) - 39, 8*len(s) - 33, 8*len(s) - 32} {
		for _, pattern := range patterns() {
			if Sum(flip(s, from, pattern)) == sum {
				t.Errorf("bits %#x from %d on changed: the sum is the same", pattern, from)
			}
		}
	}
}

// TestNo32ChangesHangOnEachOther goes through all changes at once: a change of several bits changes the sum by what each of them alone does, made one (as the law of three texts says), so that none comes to nothing just if none of the 32 is made of others.
func TestNo32ChangesHangOnEachOther(t *testing.T) {
	s := "123456789, and on"
	for from := range 8*len(s) - 31 {
		var leads [32]uint32
		for i := range 32 {
			change := Sum(flip(s, from, 1<<i)) ^ Sum(s)
			for bit := 31; bit >= 0 && change != 0; bit-- {
				if change>>bit&1 == 0 {
					continue
				}
				if leads[bit] == 0 {
					leads[bit] = change
					break
				}
				change ^= leads[bit]
			}
			if change == 0 {
				t.Errorf("the change of the bit %d behind %d is made of others", i, from)
			}
		}
	}
}

func TestASealedTextShowsAChangeWithin32Bits(t *testing.T) {
	s := "stook"
	sealed := Seal(s)
	for from := range 8*len(sealed) - 31 {
		for _, pattern := range patterns() {
			openFails(t, flip(sealed, from, pattern), api.ErrCrc)
		}
	}
}

// 4.3: three texts as long

func TestTheSumsOfThreeTextsMadeOne(t *testing.T) {
	var ch chance
	for size := range 300 {
		a, b, c := ch.text(size), ch.text(size), ch.text(size)
		if got, want := Sum(a)^Sum(b)^Sum(c), Sum(madeOne(a, b, c)); got != want {
			t.Errorf("the sums of %q, %q, %q, made one, are %#x, want %#x", a, b, c, got, want)
		}
	}
	for _, l := range [][3]string{
		{"", "", ""},
		{"a", "a", "a"},
		{"a", "a", "b"},
		{"\x00", "\xff", "\x00"},
		{"one", "two", "six"},
		{"\x00\x00\x00\x00", "\xff\xff\xff\xff", "abcd"},
	} {
		if got, want := Sum(l[0])^Sum(l[1])^Sum(l[2]), slowSum(madeOne(l[:]...)); got != want {
			t.Errorf("the sums of %q, made one, are %#x, want %#x", l, got, want)
		}
	}
}

func TestTheSumsOfTwoTextsMadeOneAreAnotherOne(t *testing.T) {
	// With two the noughts' sum is left: three are needed.
	a, b := "one", "two"
	if Sum(a)^Sum(b) != Sum(madeOne(a, b))^Sum("\x00\x00\x00") {
		t.Errorf("the sums of two texts are %#x, %#x", Sum(a), Sum(b))
	}
}

// Rule 6: calls hang on their arguments alone

func TestCallsDoNotHangOnEarlierOnes(t *testing.T) {
	for range 3 {
		openFails(t, "abc", api.ErrShort)
		openFails(t, "abcd", api.ErrCrc)
		opensAs(t, Seal("abc"), "abc")
		if got := Sum(""); got != 0 {
			t.Errorf("Sum of nothing = %#x", got)
		}
		if got := More(0xcbf43926, ""); got != 0xcbf43926 {
			t.Errorf("More of nothing = %#x", got)
		}
		if got := Sum("123456789"); got != 0xcbf43926 {
			t.Errorf("Sum = %#x", got)
		}
	}
}
