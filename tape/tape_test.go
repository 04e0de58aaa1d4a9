package tape

import (
	"encoding/binary"
	"math"
	"slices"
	"strconv"
	"strings"
	"testing"
	"unsafe"

	"stook/api"
)

// chance is a row of numbers that looks like chance and is the same each time.
type chance uint32

func (c *chance) below(n int) int {
	*c = *c*1664525 + 1013904223
	return int(*c>>16) % n
}

// number is a number of chance, as often a small one as a great one.
func (c *chance) number() int {
	n := c.below(1<<16)<<37 | c.below(1<<16)<<21 | c.below(1<<16)<<5 | c.below(1<<5)
	return n & (1<<c.below(54) - 1)
}

// whole is a whole number of chance.
func (c *chance) whole() int {
	n := c.number() / 2
	if c.below(2) == 0 {
		return -n - 1
	}
	return n
}

// text is a text of chance, of so many bytes.
func (c *chance) text(size int) string {
	text := make([]byte, size)
	for i := range text {
		text[i] = byte(c.below(256))
	}
	return string(text)
}

// slowNum is a number's bytes as the chapter says them, cut out of its bits as they are written.
func slowNum(n int) string {
	bits := strconv.FormatInt(int64(n), 2)
	var l []byte
	for len(bits) > 7 {
		seven, _ := strconv.ParseUint(bits[len(bits)-7:], 2, 8)
		l = append(l, byte(seven)+128)
		bits = bits[:len(bits)-7]
	}
	last, _ := strconv.ParseUint(bits, 2, 8)
	return string(append(l, byte(last)))
}

// slowRead is the number that bytes begin with, how many bytes it takes, and the error, as the chapter says them: a number's bytes are those that slowNum lays, no others.
func slowRead(s string) (int, int, api.Errno) {
	last := slices.IndexFunc([]byte(s), func(b byte) bool { return b < 128 })
	if last > 7 || last < 0 && len(s) > 7 {
		return 0, 0, api.ErrForm
	}
	if last < 0 {
		return 0, 0, api.ErrShort
	}
	n, size := binary.Uvarint([]byte(s))
	if n > 1<<53-1 || slowNum(int(n)) != s[:size] {
		return 0, 0, api.ErrForm
	}
	return int(n), size, api.OK
}

// wholeOf is the whole number whose bytes are those of a number: every other one of them is below 0.
func wholeOf(number int) int {
	if number%2 == 0 {
		return number / 2
	}
	return -1 - number/2
}

// numbers is numbers around all edges: small ones, those around each power of 2, the greatest, and some of chance.
func numbers() []int {
	var l []int
	for n := range 600 {
		l = append(l, n)
	}
	for power := 10; power < 53; power++ {
		for d := -3; d <= 3; d++ {
			l = append(l, 1<<power+d)
		}
	}
	var ch chance
	for range 2000 {
		l = append(l, ch.number())
	}
	return append(l, 1<<53-3, 1<<53-2, 1<<53-1)
}

// wholes is whole numbers around all edges, on both sides of 0.
func wholes() []int {
	var l []int
	for _, n := range numbers() {
		if n < 1<<52 {
			l = append(l, n, -n, -n-1)
		}
	}
	return append(l, -(1 << 52), 1<<52-1)
}

// samples is texts of which some are easily taken wrong.
func samples() []string {
	var ch chance
	l := []string{
		"", "a", "abc", "\x00", "\x00\x00", "\x7f", "\x80", "\xff", "\x80\x01", "\n", "\r\n", "ä", "€", "\xc3", "\xed\xa0\x80",
		strings.Repeat("\x80", 9), strings.Repeat("\xff", 300),
	}
	for _, size := range []int{1, 2, 126, 127, 128, 129, 255, 256, 300, 4096, 16383, 16384, 16385} {
		l = append(l, ch.text(size))
	}
	return l
}

// nothings is texts that begin with no number, and the errors that say so.
func nothings() map[string]api.Errno {
	l := map[string]api.Errno{
		"":                                     api.ErrShort,
		"\x80":                                 api.ErrShort,
		"\xff":                                 api.ErrShort,
		"\x80\x80":                             api.ErrShort,
		"\xff\xff\xff\xff\xff\xff\xff":         api.ErrShort,
		"\x80\x00":                             api.ErrForm,
		"\xff\x00":                             api.ErrForm,
		"\x80\x00\x05":                         api.ErrForm,
		"\x80\x80\x00":                         api.ErrForm,
		"\x80\x80\x80\x80\x80\x80\x00":         api.ErrForm,
		"\x80\x80\x80\x80\x80\x80\x80\x00":     api.ErrForm,
		"\xff\xff\xff\xff\xff\xff\xff\x00":     api.ErrForm,
		"\x80\x80\x80\x80\x80\x80\x80\x10":     api.ErrForm,
		"\xff\xff\xff\xff\xff\xff\xff\x10":     api.ErrForm,
		"\xff\xff\xff\xff\xff\xff\xff\x7f":     api.ErrForm,
		"\xff\xff\xff\xff\xff\xff\xff\x7f\x01": api.ErrForm,
		"\x80\x80\x80\x80\x80\x80\x80\x80":     api.ErrForm,
		"\xff\xff\xff\xff\xff\xff\xff\xff":     api.ErrForm,
		"\xff\xff\xff\xff\xff\xff\xff\x80":     api.ErrForm,
		"\x80\x80\x80\x80\x80\x80\x80\x80\x00": api.ErrForm,
		"\xff\xff\xff\xff\xff\xff\xff\xff\x01": api.ErrForm,
	}
	for size := range 40 {
		e := api.ErrShort
		if size >= 8 {
			e = api.ErrForm
		}
		l[strings.Repeat("\x80", size)] = e
		l[strings.Repeat("\xff", size)] = e
		if size >= 8 {
			l[strings.Repeat("\x80", size)+"\x01"] = e
			l[strings.Repeat("\xff", size)+"\x00abc"] = e
		}
	}
	return l
}

// stands asks whether a tape has just these bytes left, and reads none.
func stands(t *testing.T, x *Tape, rest string) {
	t.Helper()
	if x.Left() != len(rest) || x.End() != (rest == "") || x.ahead() != rest {
		t.Errorf("the tape has %q left, Left = %d, End = %v, want %q", x.ahead(), x.Left(), x.End(), rest)
	}
}

// refuses asks each call of a tape that stands at no number for its error, and whether the tape stays.
func refuses(t *testing.T, x *Tape, rest string, want api.Errno) {
	t.Helper()
	if n, e := x.Num(); n != 0 || e != want {
		t.Errorf("%q: Num = %d, %d, want %d", rest, n, e, want)
	}
	stands(t, x, rest)
	if n, e := x.Whole(); n != 0 || e != want {
		t.Errorf("%q: Whole = %d, %d, want %d", rest, n, e, want)
	}
	stands(t, x, rest)
	for _, most := range []int{math.MinInt, -1, 0, 1, 127, 1<<53 - 1, 1 << 53, math.MaxInt} {
		if n, e := x.Count(most); n != 0 || e != want {
			t.Errorf("%q: Count(%d) = %d, %d, want %d", rest, most, n, e, want)
		}
		stands(t, x, rest)
		if s, e := x.Text(most); s != "" || e != want {
			t.Errorf("%q: Text(%d) = %q, %d, want %d", rest, most, s, e, want)
		}
		stands(t, x, rest)
	}
}

// readsAsTheChapterSays holds a tape's Num against slowRead.
func readsAsTheChapterSays(t *testing.T, s string) {
	t.Helper()
	want, size, wantError := slowRead(s)
	x := New(s)
	if n, e := x.Num(); n != want || e != wantError {
		t.Errorf("%q: Num = %d, %d, want %d, %d", s, n, e, want, wantError)
	}
	stands(t, x, s[size:])
}

// 5.1: Num

func TestNumOfKnownNumbers(t *testing.T) {
	for n, want := range map[int]string{
		0:         "\x00",
		1:         "\x01",
		127:       "\x7f",
		128:       "\x80\x01",
		129:       "\x81\x01",
		255:       "\xff\x01",
		256:       "\x80\x02",
		300:       "\xac\x02",
		16383:     "\xff\x7f",
		16384:     "\x80\x80\x01",
		1<<49 - 1: "\xff\xff\xff\xff\xff\xff\x7f",
		1 << 49:   "\x80\x80\x80\x80\x80\x80\x80\x01",
		1 << 52:   "\x80\x80\x80\x80\x80\x80\x80\x08",
		1<<53 - 1: "\xff\xff\xff\xff\xff\xff\xff\x0f",
	} {
		if got := Num(n); got != want {
			t.Errorf("Num(%d) = %q, want %q", n, got, want)
		}
	}
}

func TestNumIsAsTheChapterSays(t *testing.T) {
	for _, n := range numbers() {
		if got, want := Num(n), slowNum(n); got != want {
			t.Errorf("Num(%d) = %q, want %q", n, got, want)
		}
		if got, want := Num(n), string(binary.AppendUvarint(nil, uint64(n))); got != want {
			t.Errorf("Num(%d) = %q, the library's %q", n, got, want)
		}
	}
	for n := range 1 << 17 {
		if Num(n) != slowNum(n) {
			t.Errorf("Num(%d) = %q, want %q", n, Num(n), slowNum(n))
		}
	}
}

func TestNumOfNumbersThatMayNotBe(t *testing.T) {
	for _, n := range []int{-1, -2, -127, -128, -300, -1 << 53, math.MinInt, math.MinInt + 1, 1 << 53, 1<<53 + 1, 1 << 54, 1 << 56, 1 << 62, math.MaxInt} {
		if got := Num(n); got != "" {
			t.Errorf("Num(%d) = %q", n, got)
		}
	}
}

// 5.1: Whole

func TestWholeOfKnownNumbers(t *testing.T) {
	for n, want := range map[int]string{
		0:          "\x00",
		-1:         "\x01",
		1:          "\x02",
		-2:         "\x03",
		63:         "\x7e",
		-64:        "\x7f",
		64:         "\x80\x01",
		-65:        "\x81\x01",
		150:        "\xac\x02",
		1<<52 - 1:  "\xfe\xff\xff\xff\xff\xff\xff\x0f",
		-(1 << 52): "\xff\xff\xff\xff\xff\xff\xff\x0f",
	} {
		if got := Whole(n); got != want {
			t.Errorf("Whole(%d) = %q, want %q", n, got, want)
		}
	}
}

func TestWholeIsAsTheChapterSays(t *testing.T) {
	for _, n := range wholes() {
		want := slowNum(2 * n)
		if n < 0 {
			want = slowNum(-2*n - 1)
		}
		if got := Whole(n); got != want {
			t.Errorf("Whole(%d) = %q, want %q", n, got, want)
		}
	}
}

func TestWholeOfNumbersThatMayNotBe(t *testing.T) {
	for _, n := range []int{
		1 << 52, 1<<52 + 1, 1<<53 - 1, 1 << 53, 1 << 62, 1<<62 + 1, math.MaxInt,
		-(1 << 52) - 1, -(1 << 52) - 2, -(1 << 53), -(1 << 62), -(1 << 62) - 1, -(1 << 63) + 1, math.MinInt,
	} {
		if got := Whole(n); got != "" {
			t.Errorf("Whole(%d) = %q", n, got)
		}
	}
}

// 5.1: Text, Texts

func TestTextOfKnownTexts(t *testing.T) {
	for s, want := range map[string]string{
		"":                        "\x00",
		"a":                       "\x01a",
		"abc":                     "\x03abc",
		"\x00":                    "\x01\x00",
		"ä":                       "\x02\xc3\xa4",
		"\xff\x80":                "\x02\xff\x80",
		strings.Repeat("x", 127):  "\x7f" + strings.Repeat("x", 127),
		strings.Repeat("x", 128):  "\x80\x01" + strings.Repeat("x", 128),
		strings.Repeat("\n", 300): "\xac\x02" + strings.Repeat("\n", 300),
	} {
		if got := Text(s); got != want {
			t.Errorf("Text(%q) = %q, want %q", s, got, want)
		}
	}
	for _, s := range samples() {
		if got, want := Text(s), slowNum(len(s))+s; got != want {
			t.Errorf("Text(%q) = %q, want %q", s, got, want)
		}
	}
}

func TestTextsOfKnownTexts(t *testing.T) {
	for _, c := range []struct {
		l    []string
		want string
	}{
		{nil, "\x00"},
		{[]string{}, "\x00"},
		{[]string{""}, "\x01\x00"},
		{[]string{"", ""}, "\x02\x00\x00"},
		{[]string{"a", ""}, "\x02\x01a\x00"},
		{[]string{"", "a"}, "\x02\x00\x01a"},
		{[]string{"ab", "a", "abc"}, "\x03\x02ab\x01a\x03abc"},
		{[]string{"\x00\x00", "\x80"}, "\x02\x02\x00\x00\x01\x80"},
	} {
		if got := Texts(c.l...); got != c.want {
			t.Errorf("Texts(%q) = %q, want %q", c.l, got, c.want)
		}
	}
	if got := Texts(); got != "\x00" {
		t.Errorf("Texts() = %q", got)
	}
	if got := Texts("one", "two"); got != "\x02\x03one\x03two" {
		t.Errorf("Texts = %q", got)
	}
}

func TestTextsOfHoweverMany(t *testing.T) {
	var ch chance
	for _, count := range []int{0, 1, 2, 126, 127, 128, 129, 300, 16384} {
		l := make([]string, count)
		want := slowNum(count)
		for i := range l {
			l[i] = ch.text(ch.below(4))
			want += slowNum(len(l[i])) + l[i]
		}
		if got := Texts(l...); got != want {
			t.Errorf("Texts of %d texts are %d bytes, want %d", count, len(got), len(want))
		}
	}
	if got, want := Texts(samples()...), slowTexts(samples()); got != want {
		t.Errorf("Texts of samples are %d bytes, want %d", len(got), len(want))
	}
}

// slowTexts is the bytes of texts, one behind the other.
func slowTexts(l []string) string {
	laid := slowNum(len(l))
	for _, s := range l {
		laid += slowNum(len(s)) + s
	}
	return laid
}

func TestTextsLeavesTheListAsItWas(t *testing.T) {
	room := []string{"a", "b", "c", "d"}
	Texts(room[:2]...)
	if !slices.Equal(room, []string{"a", "b", "c", "d"}) {
		t.Errorf("the list is %q", room)
	}
}

// 5.2: New, Left, End

func TestNewStandsAtTheBeginning(t *testing.T) {
	for _, s := range samples() {
		stands(t, New(s), s)
	}
	stands(t, New(""), "")
}

func TestLeftAndEndReadNothing(t *testing.T) {
	x := New("\x05\x06")
	for range 3 {
		stands(t, x, "\x05\x06")
	}
	x.Num()
	for range 3 {
		stands(t, x, "\x06")
	}
	x.Num()
	for range 3 {
		stands(t, x, "")
	}
}

func TestNilIsATapeOfNothing(t *testing.T) {
	var x *Tape
	for range 2 {
		if x.Left() != 0 || !x.End() {
			t.Errorf("Left of nil = %d, End of nil = %v", x.Left(), x.End())
		}
		refuses(t, x, "", api.ErrShort)
	}
}

// 5.2: Num

func TestNumReadsKnownNumbers(t *testing.T) {
	for s, want := range map[string]int{
		"\x00":                             0,
		"\x05":                             5,
		"\x7f":                             127,
		"\x80\x01":                         128,
		"\xac\x02":                         300,
		"\xff\x01":                         255,
		"\xff\x7f":                         16383,
		"\xff\xff\xff\xff\xff\xff\x7f":     1<<49 - 1,
		"\x80\x80\x80\x80\x80\x80\x80\x01": 1 << 49,
		"\xff\xff\xff\xff\xff\xff\xff\x0f": 1<<53 - 1,
		"\x80\x80\x80\x80\x80\x80\x80\x0f": 15 << 49,
	} {
		for _, behind := range []string{"", "\x00", "\x01", "\x7f", "\x80", "\xff\xff", "abc", strings.Repeat("\xff", 20)} {
			x := New(s + behind)
			if n, e := x.Num(); n != want || e != api.OK {
				t.Errorf("%q: Num = %d, %d, want %d", s+behind, n, e, want)
			}
			stands(t, x, behind)
		}
	}
}

func TestNoNumberIsRead(t *testing.T) {
	for s, e := range nothings() {
		x := New(s)
		refuses(t, x, s, e)
		// And the second time as the first.
		refuses(t, x, s, e)
		behind := New("\x07\x01a" + s)
		behind.Num()
		behind.Text(1)
		refuses(t, behind, s, e)
	}
}

func TestNumIsReadAsTheChapterSays(t *testing.T) {
	for a := range 256 {
		readsAsTheChapterSays(t, string([]byte{byte(a)}))
		for b := range 256 {
			readsAsTheChapterSays(t, string([]byte{byte(a), byte(b)}))
		}
	}
	for last := range 256 {
		for size := range 10 {
			for _, fill := range []string{"\x80", "\xff", "\xac"} {
				s := strings.Repeat(fill, size) + string([]byte{byte(last)})
				readsAsTheChapterSays(t, s)
				readsAsTheChapterSays(t, s+"\x00")
				readsAsTheChapterSays(t, s+"\xff")
			}
		}
	}
	var ch chance
	for range 50000 {
		// Bytes of 128 or more stand more often than by chance, so that long numbers are met.
		s := []byte(ch.text(ch.below(12)))
		for i := range s {
			if ch.below(3) > 0 {
				s[i] |= 128
			}
		}
		readsAsTheChapterSays(t, string(s))
	}
}

func TestNumberCutShort(t *testing.T) {
	for _, n := range numbers() {
		laid := slowNum(n)
		for cut := range len(laid) {
			x := New(laid[:cut])
			if got, e := x.Num(); got != 0 || e != api.ErrShort {
				t.Errorf("%q: Num = %d, %d, want ErrShort", laid[:cut], got, e)
			}
			stands(t, x, laid[:cut])
		}
	}
}

// 5.2: Whole

func TestWholeReadsKnownNumbers(t *testing.T) {
	for s, want := range map[string]int{
		"\x00":                             0,
		"\x01":                             -1,
		"\x02":                             1,
		"\x03":                             -2,
		"\x7e":                             63,
		"\x7f":                             -64,
		"\x80\x01":                         64,
		"\x81\x01":                         -65,
		"\xfe\xff\xff\xff\xff\xff\xff\x0f": 1<<52 - 1,
		"\xff\xff\xff\xff\xff\xff\xff\x0f": -(1 << 52),
	} {
		for _, behind := range []string{"", "\x00", "\xff", "abc"} {
			x := New(s + behind)
			if n, e := x.Whole(); n != want || e != api.OK {
				t.Errorf("%q: Whole = %d, %d, want %d", s+behind, n, e, want)
			}
			stands(t, x, behind)
		}
	}
}

func TestWholeIsOfTheNumberThatIsRead(t *testing.T) {
	for a := range 256 {
		for b := range 256 {
			s := string([]byte{byte(a), byte(b)})
			number, size, want := slowRead(s)
			x := New(s)
			if n, e := x.Whole(); n != wholeOf(number) || e != want {
				t.Errorf("%q: Whole = %d, %d, want %d, %d", s, n, e, wholeOf(number), want)
			}
			stands(t, x, s[size:])
		}
	}
	for _, number := range numbers() {
		if n, e := New(slowNum(number)).Whole(); n != wholeOf(number) || e != api.OK {
			t.Errorf("the number %d: Whole = %d, %d, want %d", number, n, e, wholeOf(number))
		}
	}
}

// 5.2: Count

func TestCountOfAtMost(t *testing.T) {
	for _, n := range []int{0, 1, 5, 127, 128, 300, 1 << 32, 1<<53 - 1} {
		laid := slowNum(n) + "rest"
		for _, most := range []int{n, n + 1, n + 1000, 1<<53 - 1, 1 << 53, math.MaxInt} {
			x := New(laid)
			if got, e := x.Count(most); got != n || e != api.OK {
				t.Errorf("Count(%d) of %d = %d, %d", most, n, got, e)
			}
			stands(t, x, "rest")
		}
		for _, most := range []int{n - 1, n - 2, n - 1000, -1, math.MinInt + 1, math.MinInt} {
			if most >= n {
				continue
			}
			x := New(laid)
			if got, e := x.Count(most); got != 0 || e != api.ErrLarge {
				t.Errorf("Count(%d) of %d = %d, %d, want ErrLarge", most, n, got, e)
			}
			stands(t, x, laid)
			// It is still there for one who takes more.
			if got, e := x.Count(n); got != n || e != api.OK {
				t.Errorf("Count(%d) of %d = %d, %d", n, n, got, e)
			}
			stands(t, x, "rest")
		}
	}
}

// 5.2: Text

func TestTextReadsKnownTexts(t *testing.T) {
	for s, want := range map[string]string{
		"\x00":         "",
		"\x01a":        "a",
		"\x03abc":      "abc",
		"\x01\x00":     "\x00",
		"\x02\xff\x80": "\xff\x80",
	} {
		for _, behind := range []string{"", "\x00", "\x80", "more"} {
			for _, most := range []int{len(want), len(want) + 1, 1 << 53, math.MaxInt} {
				x := New(s + behind)
				if got, e := x.Text(most); got != want || e != api.OK {
					t.Errorf("%q: Text(%d) = %q, %d, want %q", s+behind, most, got, e, want)
				}
				stands(t, x, behind)
			}
		}
	}
}

func TestTextOfMoreThanMost(t *testing.T) {
	for _, s := range samples() {
		laid := slowNum(len(s)) + s
		for _, most := range []int{len(s) - 1, len(s) - 2, -1, math.MinInt} {
			x := New(laid)
			if got, e := x.Text(most); got != "" || e != api.ErrLarge {
				t.Errorf("%q: Text(%d) = %q, %d, want ErrLarge", s, most, got, e)
			}
			stands(t, x, laid)
			if got, e := x.Text(len(s)); got != s || e != api.OK {
				t.Errorf("%q: Text(%d) = %q, %d", s, len(s), got, e)
			}
			stands(t, x, "")
		}
	}
}

func TestTextCutShort(t *testing.T) {
	for _, s := range []string{"a", "abc", "\x00\x00", strings.Repeat("x", 127), strings.Repeat("x", 128), strings.Repeat("\x80", 300)} {
		laid := slowNum(len(s)) + s
		for cut := range len(laid) {
			x := New(laid[:cut])
			if got, e := x.Text(len(s)); got != "" || e != api.ErrShort {
				t.Errorf("%q: Text = %q, %d, want ErrShort", laid[:cut], got, e)
			}
			stands(t, x, laid[:cut])
		}
	}
}

func TestTextOfAGreatLengthAndFewBytes(t *testing.T) {
	for _, n := range []int{4, 127, 128, 1 << 31, 1 << 32, 1<<53 - 1} {
		laid := slowNum(n) + "abc"
		for _, most := range []int{n, 1 << 53, math.MaxInt} {
			x := New(laid)
			if got, e := x.Text(most); got != "" || e != api.ErrShort {
				t.Errorf("%q: Text(%d) = %q, %d, want ErrShort", laid, most, got, e)
			}
			stands(t, x, laid)
		}
		// Both too long for most and for what is left: ErrLarge is named first.
		x := New(laid)
		if got, e := x.Text(n - 1); got != "" || e != api.ErrLarge {
			t.Errorf("%q: Text(%d) = %q, %d, want ErrLarge", laid, n-1, got, e)
		}
		stands(t, x, laid)
		// The length is a number still.
		if got, e := x.Num(); got != n || e != api.OK {
			t.Errorf("%q: Num = %d, %d", laid, got, e)
		}
		stands(t, x, "abc")
	}
}

// 5.2: where the tape stands, call by call

func TestCallsOneBehindTheOther(t *testing.T) {
	x := New("\xac\x02\x01\x05\x03abc\x00\x03ab")
	if n, e := x.Num(); n != 300 || e != api.OK {
		t.Errorf("Num = %d, %d", n, e)
	}
	stands(t, x, "\x01\x05\x03abc\x00\x03ab")
	if n, e := x.Whole(); n != -1 || e != api.OK {
		t.Errorf("Whole = %d, %d", n, e)
	}
	stands(t, x, "\x05\x03abc\x00\x03ab")
	if n, e := x.Count(4); n != 0 || e != api.ErrLarge {
		t.Errorf("Count(4) = %d, %d", n, e)
	}
	stands(t, x, "\x05\x03abc\x00\x03ab")
	if n, e := x.Count(5); n != 5 || e != api.OK {
		t.Errorf("Count(5) = %d, %d", n, e)
	}
	stands(t, x, "\x03abc\x00\x03ab")
	if s, e := x.Text(2); s != "" || e != api.ErrLarge {
		t.Errorf("Text(2) = %q, %d", s, e)
	}
	stands(t, x, "\x03abc\x00\x03ab")
	if s, e := x.Text(3); s != "abc" || e != api.OK {
		t.Errorf("Text(3) = %q, %d", s, e)
	}
	stands(t, x, "\x00\x03ab")
	if s, e := x.Text(0); s != "" || e != api.OK {
		t.Errorf("Text(0) = %q, %d", s, e)
	}
	stands(t, x, "\x03ab")
	if s, e := x.Text(3); s != "" || e != api.ErrShort {
		t.Errorf("Text(3) = %q, %d", s, e)
	}
	stands(t, x, "\x03ab")
	if n, e := x.Num(); n != 3 || e != api.OK {
		t.Errorf("Num = %d, %d", n, e)
	}
	stands(t, x, "ab")
}

func TestAtTheEndNothingIsRead(t *testing.T) {
	for _, s := range []string{"\x00", "\x7f", "\xac\x02"} {
		x := New(s)
		if _, e := x.Num(); e != api.OK {
			t.Errorf("%q: Num = %d", s, e)
		}
		refuses(t, x, "", api.ErrShort)
	}
	x := New("\x03abc")
	x.Text(3)
	refuses(t, x, "", api.ErrShort)
}

// 5.3: what was laid is read again

func TestNumbersAreReadAgain(t *testing.T) {
	for _, n := range numbers() {
		for _, behind := range []string{"", "\x00", "\x80", "\xff\xff\xff\xff\xff\xff\xff\xff"} {
			x := New(Num(n) + behind)
			if got, e := x.Num(); got != n || e != api.OK {
				t.Errorf("Num of Num(%d) = %d, %d", n, got, e)
			}
			stands(t, x, behind)
		}
	}
	for _, n := range wholes() {
		x := New(Whole(n) + "\x80")
		if got, e := x.Whole(); got != n || e != api.OK {
			t.Errorf("Whole of Whole(%d) = %d, %d", n, got, e)
		}
		stands(t, x, "\x80")
	}
}

func TestTextsAreReadAgain(t *testing.T) {
	for _, l := range [][]string{nil, {""}, {"", "", ""}, samples()} {
		x := New(Texts(l...) + "behind")
		count, e := x.Count(len(l))
		if count != len(l) || e != api.OK {
			t.Errorf("Count = %d, %d, want %d", count, e, len(l))
		}
		for _, want := range l {
			if got, e := x.Text(len(want)); got != want || e != api.OK {
				t.Errorf("Text = %q, %d, want %q", got, e, want)
			}
		}
		stands(t, x, "behind")
	}
	for _, s := range samples() {
		x := New(Text(s) + s)
		if got, e := x.Text(math.MaxInt); got != s || e != api.OK {
			t.Errorf("Text of Text(%q) = %q, %d", s, got, e)
		}
		stands(t, x, s)
	}
}

// item is one thing that was laid: of the kind 0 a number, of 1 a whole number, of 2 a text.
type item struct {
	kind, n int
	s       string
}

// lay is an item's bytes.
func (i item) lay() string {
	switch i.kind {
	case 0:
		return Num(i.n)
	case 1:
		return Whole(i.n)
	}
	return Text(i.s)
}

// take reads an item of the same kind.
func (i item) take(x *Tape) (item, api.Errno) {
	var e api.Errno
	got := item{kind: i.kind}
	switch i.kind {
	case 0:
		got.n, e = x.Num()
	case 1:
		got.n, e = x.Whole()
	default:
		got.s, e = x.Text(len(i.s))
	}
	return got, e
}

func TestAllKindsOneBehindTheOtherAreReadAgain(t *testing.T) {
	var ch chance
	for range 500 {
		items := make([]item, ch.below(20))
		laid := ""
		for i := range items {
			switch items[i].kind = ch.below(3); items[i].kind {
			case 0:
				items[i].n = ch.number()
			case 1:
				items[i].n = ch.whole()
			default:
				items[i].s = ch.text(ch.below(200))
			}
			laid += items[i].lay()
		}
		x := New(laid)
		for _, want := range items {
			if got, e := want.take(x); got != want || e != api.OK {
				t.Fatalf("%v is read as %v, %d", want, got, e)
			}
		}
		stands(t, x, "")
	}
}

// 5.3: nothing else is read as it

func TestNoBytesAreTheBeginningOfAnotherNumbers(t *testing.T) {
	var laid []string
	met := map[string]int{}
	put := func(n int) {
		s := Num(n)
		if first, ok := met[s]; ok && first != n {
			t.Errorf("Num(%d) and Num(%d) are both %q", first, n, s)
		}
		met[s] = n
		laid = append(laid, s)
	}
	for n := range 1 << 17 {
		put(n)
	}
	for _, n := range numbers() {
		put(n)
	}
	slices.Sort(laid)
	laid = slices.Compact(laid)
	// In this order whatever begins with some bytes stands right behind them.
	for i := 1; i < len(laid); i++ {
		if strings.HasPrefix(laid[i], laid[i-1]) {
			t.Errorf("%q is the beginning of %q", laid[i-1], laid[i])
		}
	}
}

func TestWholeNumbersHaveUnlikeBytes(t *testing.T) {
	met := map[string]int{}
	for _, n := range wholes() {
		if first, ok := met[Whole(n)]; ok && first != n {
			t.Errorf("Whole(%d) and Whole(%d) are both %q", first, n, Whole(n))
		}
		met[Whole(n)] = n
	}
}

func TestWhatIsReadIsWhatWasLaid(t *testing.T) {
	var ch chance
	for range 50000 {
		b := []byte(ch.text(1 + ch.below(10)))
		for i := range b {
			if ch.below(3) > 0 {
				b[i] |= 128
			} else if ch.below(3) == 0 {
				b[i] %= 16
			}
		}
		s := string(b)
		x := New(s)
		if n, e := x.Num(); e == api.OK && Num(n) != s[:len(s)-x.Left()] {
			t.Errorf("%q is read as %d, whose bytes are %q", s, n, Num(n))
		}
		x = New(s)
		if n, e := x.Whole(); e == api.OK && Whole(n) != s[:len(s)-x.Left()] {
			t.Errorf("%q is read as the whole %d, whose bytes are %q", s, n, Whole(n))
		}
		x = New(s)
		if text, e := x.Text(math.MaxInt); e == api.OK && Text(text) != s[:len(s)-x.Left()] {
			t.Errorf("%q is read as the text %q, whose bytes are %q", s, text, Text(text))
		}
	}
}

// Rules 4 and 6: memory, and what calls hang on

// shares tells whether two texts have a byte of memory in common.
func shares(a, b string) bool {
	if a == "" || b == "" {
		return false
	}
	from, other := uintptr(unsafe.Pointer(unsafe.StringData(a))), uintptr(unsafe.Pointer(unsafe.StringData(b)))
	return from < other+uintptr(len(b)) && other < from+uintptr(len(a))
}

func TestWhatIsHandedOutIsNew(t *testing.T) {
	s := strings.Repeat("stook ", 20)
	if laid := Text(s); shares(laid, s) {
		t.Errorf("Text shares memory with what it was handed")
	}
	if laid := Texts(s); shares(laid, s) {
		t.Errorf("Texts shares memory with what it was handed")
	}
	laid := Text(s) + Text(s)
	x, y := New(laid), New(laid)
	whole, otherWhole := x.ahead(), y.ahead()
	first, _ := x.Text(len(s))
	second, _ := x.Text(len(s))
	other, _ := y.Text(len(s))
	for i, a := range []string{first, second, other} {
		if a != s || shares(a, laid) || shares(a, whole) || shares(a, otherWhole) {
			t.Errorf("the text %d is %q, or shares memory with its tape", i, a)
		}
	}
	if shares(first, second) || shares(first, other) || shares(second, other) {
		t.Errorf("two texts that were read share memory")
	}
}

func TestATapeDoesNotKeepWhatItWasHanded(t *testing.T) {
	room := []byte("\x03abc\x05")
	x := New(unsafe.String(&room[0], len(room)))
	copy(room, "\x80\x80\x80\x80\x80")
	if s, e := x.Text(3); s != "abc" || e != api.OK {
		t.Errorf("Text = %q, %d", s, e)
	}
	stands(t, x, "\x05")
}

func TestTapesDoNotHangOnEachOther(t *testing.T) {
	s := "\x01\x02\x03"
	x, y := New(s), New(s)
	x.Num()
	x.Num()
	stands(t, x, "\x03")
	stands(t, y, s)
	if n, e := y.Num(); n != 1 || e != api.OK {
		t.Errorf("Num = %d, %d", n, e)
	}
	stands(t, x, "\x03")
	stands(t, New(s), s)
}
