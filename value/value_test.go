package value

import (
	"encoding/hex"
	"fmt"
	"math"
	"math/big"
	"regexp"
	"slices"
	"strconv"
	"strings"
	"testing"
	"unsafe"

	"stook/api"
	"stook/tape"
)

const (
	// farInt is how far out a right number may be, farPart a part of a right point, farText how long a right text.
	farInt  = 1 << 53
	farPart = 1 << 24
	farText = 4096
)

// zero is what stands beside each error.
var zero api.Value

func num(n int) api.Value     { return api.Value{N: n} }
func txt(s string) api.Value  { return api.Value{Kind: 1, S: s} }
func spot(x, y int) api.Value { return api.Value{Kind: 2, P: api.Spot{X: x, Y: y}} }

// chance is a row of numbers that looks like chance and is the same each time.
type chance uint32

func (c *chance) below(n int) int {
	*c = *c*1664525 + 1013904223
	return int(*c>>16) % n
}

// whole is a number of chance with at most so many bits, as often a small one as a great one, on both sides of 0.
func (c *chance) whole(bits int) int {
	n := c.below(1<<16)<<48 | c.below(1<<16)<<32 | c.below(1<<16)<<16 | c.below(1<<16)
	n &= 1<<c.below(bits+1) - 1
	if c.below(2) == 0 {
		return -n
	}
	return n
}

// text is a text of chance, of so many bytes out of these.
func (c *chance) text(size int, of string) string {
	text := make([]byte, size)
	for i := range text {
		text[i] = of[c.below(len(of))]
	}
	return string(text)
}

// value is a right value of chance.
func (c *chance) value() api.Value {
	switch c.below(3) {
	case 0:
		return num(c.whole(53))
	case 1:
		return txt(c.text(c.below(40), everyByte()))
	}
	return spot(c.whole(24), c.whole(24))
}

// everyByte is the text of all bytes.
func everyByte() string {
	l := make([]byte, 256)
	for i := range l {
		l[i] = byte(i)
	}
	return string(l)
}

// bothSides is numbers around 0 and around all powers of 2 up to one, on both sides of 0, out to that one and no farther.
func bothSides(power int) []int {
	var l []int
	for n := range 2 * farText {
		l = append(l, n, -n)
	}
	for p := 10; p <= power; p++ {
		for d := -3; d <= 3; d++ {
			l = append(l, 1<<p+d, -1<<p+d)
		}
	}
	return slices.DeleteFunc(l, func(n int) bool { return n > 1<<power || n < -1<<power })
}

// texts is right texts of which some are easily taken wrong.
func texts() []string {
	l := []string{
		"", "a", "abc", "\x00", "\x00\x00", "\x1f", " ", "!", "\"", "#", "[", "\\", "]", "~", "\x7f", "\x80", "\xff", "\x80\x01",
		"0", "1:2", "-1", "\"\"", "\\\\", "\\00", "\\22", "\"a\"", "ä", "€", "\xc3", "\xed\xa0\x80", "\r\n", "\t", "abc\x00", "abc\xff", everyByte(),
		strings.Repeat("x", farText-1), strings.Repeat("x", farText), strings.Repeat("\"", farText), strings.Repeat("\x00", farText), strings.Repeat("\xff", farText),
	}
	for b := range 256 {
		l = append(l, string([]byte{byte(b)}), "a"+string([]byte{byte(b)}), string([]byte{byte(b)})+"0a")
	}
	var ch chance
	for _, size := range []int{2, 3, 126, 127, 128, 129, 255, 256, 4095, 4096} {
		l = append(l, ch.text(size, everyByte()))
	}
	return l
}

// rights is right values of all kinds, around all edges, and some of chance.
func rights() []api.Value {
	var l []api.Value
	for _, n := range bothSides(53) {
		l = append(l, num(n))
	}
	for _, s := range texts() {
		l = append(l, txt(s))
	}
	for _, n := range bothSides(24) {
		l = append(l, spot(n, 0), spot(0, n), spot(n, n), spot(n, -n), spot(farPart, n), spot(n, -farPart))
	}
	var ch chance
	for range 3000 {
		l = append(l, ch.value())
	}
	return l
}

// wrongs is values that aren't right: out of range, of a kind that there isn't, or with another kind's part.
func wrongs() []api.Value {
	var l []api.Value
	for _, n := range []int{farInt + 1, farInt + 2, farInt + 1<<27, 1 << 54, 1 << 62, math.MaxInt - 1, math.MaxInt, -farInt - 1, -farInt - 2, -farInt - 1<<27, -1 << 62, math.MinInt + 1, math.MinInt} {
		l = append(l, num(n), spot(n, 0), spot(0, n), spot(n, n))
	}
	for _, n := range []int{farPart + 1, farPart + 2, 1 << 25, 1 << 32, 1<<32 + 1, farInt, -farPart - 1, -farPart - 2, -1 << 25, -1 << 32, -farInt} {
		l = append(l, spot(n, 0), spot(0, n), spot(n, n), spot(n, -n), spot(farPart, n), spot(n, farPart))
	}
	for _, size := range []int{farText + 1, farText + 2, 2 * farText, 1 << 16} {
		l = append(l, txt(strings.Repeat("a", size)), txt(strings.Repeat("\x00", size)))
	}
	for _, kind := range []int{-1, -2, 3, 4, 127, 128, 256, 257, 258, 1 << 32, 1<<32 + 1, math.MinInt, math.MaxInt} {
		l = append(l, api.Value{Kind: kind}, api.Value{Kind: kind, N: 1}, api.Value{Kind: kind, S: "a"}, api.Value{Kind: kind, P: api.Spot{X: 1}})
	}
	for _, kind := range []int{0, 1, 2} {
		both := []api.Value{
			{Kind: kind, N: 1, S: "a"}, {Kind: kind, N: -1, P: api.Spot{X: 1}}, {Kind: kind, N: 7, P: api.Spot{Y: -1}},
			{Kind: kind, S: "\x00", P: api.Spot{X: 1}}, {Kind: kind, S: "a", P: api.Spot{Y: 1}}, {Kind: kind, N: 1, S: "a", P: api.Spot{X: 1, Y: 1}},
		}
		l = append(l, both...)
	}
	return append(l,
		api.Value{Kind: 0, S: "a"}, api.Value{Kind: 0, S: "\x00"}, api.Value{Kind: 0, P: api.Spot{X: 1}}, api.Value{Kind: 0, P: api.Spot{Y: 1}},
		api.Value{Kind: 1, N: 1}, api.Value{Kind: 1, N: -1}, api.Value{Kind: 1, P: api.Spot{X: 1}}, api.Value{Kind: 1, P: api.Spot{Y: 1}},
		api.Value{Kind: 2, N: 1}, api.Value{Kind: 2, N: -1}, api.Value{Kind: 2, S: "a"}, api.Value{Kind: 2, S: "\x00"},
	)
}

// slowBytes is a right value's bytes as the chapter says them; a number is divided without bounds, and a rest from 0 on left.
func slowBytes(v api.Value) string {
	switch v.Kind {
	case 0:
		quotient, rest := new(big.Int).DivMod(big.NewInt(int64(v.N)), big.NewInt(1<<27), new(big.Int))
		return tape.Num(0) + tape.Whole(int(quotient.Int64())) + tape.Num(int(rest.Int64()))
	case 1:
		return tape.Num(1) + tape.Text(v.S)
	}
	return tape.Num(2) + tape.Whole(v.P.X) + tape.Whole(v.P.Y)
}

// slowRead is what Read answers as the chapter says it, and how many bytes are left behind a value: whatever is read, but of a text that is too long, is first read, and then held against what may be.
func slowRead(s string) (api.Value, int, api.Errno) {
	x := tape.New(s)
	kind, e := x.Num()
	if e != api.OK {
		return zero, 0, e
	}
	v := api.Value{Kind: kind}
	ok := true
	switch kind {
	case 0:
		quotient, e1 := x.Whole()
		rest, e2 := x.Num()
		n := new(big.Int).Mul(big.NewInt(int64(quotient)), big.NewInt(1<<27))
		n.Add(n, big.NewInt(int64(rest)))
		ok = rest < 1<<27 && n.CmpAbs(big.NewInt(farInt)) <= 0
		if ok {
			v.N = int(n.Int64())
		}
		e = firstError(e1, e2)
	case 1:
		v.S, e = x.Text(farText)
	case 2:
		var e1, e2 api.Errno
		v.P.X, e1 = x.Whole()
		v.P.Y, e2 = x.Whole()
		ok = max(v.P.X, v.P.Y) <= farPart && min(v.P.X, v.P.Y) >= -farPart
		e = firstError(e1, e2)
	default:
		ok = false
	}
	if e == api.OK && !ok {
		e = api.ErrForm
	}
	if e != api.OK {
		return zero, 0, e
	}
	return v, x.Left(), api.OK
}

func firstError(a, b api.Errno) api.Errno {
	if a != api.OK {
		return a
	}
	return b
}

// slowWrite is a right value as it is written.
func slowWrite(v api.Value) string {
	switch v.Kind {
	case 0:
		return fmt.Sprintf("%d", v.N)
	case 1:
		s := ""
		for _, b := range []byte(v.S) {
			if strings.IndexByte("\"\\", b) < 0 && b > 31 && b < 127 {
				s += string(rune(b))
			} else {
				s += fmt.Sprintf("\\%02x", b)
			}
		}
		return "\"" + s + "\""
	}
	return fmt.Sprintf("%d:%d", v.P.X, v.P.Y)
}

var (
	// parts is as much of a number, or of a point, as stands there, right or not.
	parts = regexp.MustCompile(`^(-?[0-9]*)(:(-?[0-9]*))?`)
	// part is a number as it must be written.
	part = regexp.MustCompile(`^(0|-?[1-9][0-9]*)$`)
	// quoted is as much of a text in quotes as may stand, its end left off.
	quoted = regexp.MustCompile(`^"([ !#-\[\]-~]|\\([0189a-f][0-9a-f]|22|5c|7f))*`)
	// escaped is a byte that doesn't stand as it is.
	escaped = regexp.MustCompile(`\\..`)
	// cutOff is what is left of a byte ahead of an end that came too soon.
	cutOff = regexp.MustCompile(`^(\\[0-9a-f]?)?$`)
)

// slowParse is what Parse answers as the chapter says it.
func slowParse(s string) (api.Value, int, api.Errno) {
	if s == "" || strings.IndexByte("-0123456789\"", s[0]) < 0 {
		return zero, 0, api.ErrWord
	}
	if s[0] == '"' {
		return slowText(s)
	}
	at := parts.FindStringSubmatchIndex(s)
	x, e := slowPart(s[:at[3]], s[at[3]:])
	if e != api.OK {
		return zero, 0, e
	}
	if at[4] < 0 {
		if x.CmpAbs(big.NewInt(farInt)) > 0 {
			return zero, 0, api.ErrRange
		}
		return num(int(x.Int64())), at[3], api.OK
	}
	y, e := slowPart(s[at[6]:at[7]], s[at[7]:])
	if e != api.OK {
		return zero, 0, e
	}
	if x.CmpAbs(big.NewInt(farPart)) > 0 || y.CmpAbs(big.NewInt(farPart)) > 0 {
		return zero, 0, api.ErrRange
	}
	return spot(int(x.Int64()), int(y.Int64())), at[7], api.OK
}

// slowPart is a number as it is written, with what stands behind it.
func slowPart(s, behind string) (*big.Int, api.Errno) {
	if (s == "" || s == "-") && behind == "" {
		return nil, api.ErrShort
	}
	if !part.MatchString(s) {
		return nil, api.ErrForm
	}
	n, _ := new(big.Int).SetString(s, 10)
	return n, api.OK
}

// slowText is what Parse answers of a text in quotes.
func slowText(s string) (api.Value, int, api.Errno) {
	stands := quoted.FindString(s)
	behind := s[len(stands):]
	if cutOff.MatchString(behind) {
		return zero, 0, api.ErrShort
	}
	if behind[0] != '"' {
		return zero, 0, api.ErrForm
	}
	text := escaped.ReplaceAllStringFunc(stands[1:], func(s string) string {
		b, _ := hex.DecodeString(s[1:])
		return string(b)
	})
	if len(text) > farText {
		return zero, 0, api.ErrLarge
	}
	return txt(text), len(stands) + 1, api.OK
}

// clip is a text as a fault tells it.
func clip(s string) string {
	if len(s) > 60 {
		return strconv.Quote(s[:60]) + ".."
	}
	return strconv.Quote(s)
}

// reads asks whether Read answers this, and where the tape stands behind a value.
func reads(t *testing.T, s string, want api.Value, left int, wantError api.Errno) {
	t.Helper()
	x := tape.New(s)
	v, e := Read(x)
	if v != want || e != wantError {
		t.Errorf("Read of %s = %v, %d, want %v, %d", clip(s), v, e, want, wantError)
	}
	if wantError == api.OK && x.Left() != left {
		t.Errorf("Read of %s leaves %d bytes, want %d", clip(s), x.Left(), left)
	}
}

// parses asks whether Parse answers this.
func parses(t *testing.T, s string, want api.Value, size int, wantError api.Errno) {
	t.Helper()
	if v, n, e := Parse(s); v != want || n != size || e != wantError {
		t.Errorf("Parse of %s = %v, %d, %d, want %v, %d, %d", clip(s), v, n, e, want, size, wantError)
	}
}

// parsesAsTheChapterSays holds Parse against slowParse.
func parsesAsTheChapterSays(t *testing.T, s string) {
	t.Helper()
	want, size, wantError := slowParse(s)
	parses(t, s, want, size, wantError)
}

// 7.1: Right

func TestRightOfRightValues(t *testing.T) {
	for _, v := range []api.Value{zero, num(1), num(-1), num(farInt), num(-farInt), txt(""), txt("a"), txt(strings.Repeat("\xff", farText)), spot(0, 0), spot(farPart, farPart), spot(-farPart, -farPart), spot(farPart, -farPart)} {
		if !Right(v) {
			t.Errorf("Right of %v is false", v)
		}
	}
	for _, v := range rights() {
		if !Right(v) {
			t.Errorf("Right of %v is false", v)
		}
	}
}

func TestRightOfWrongValues(t *testing.T) {
	for _, v := range wrongs() {
		if Right(v) {
			t.Errorf("Right of %v is true", v)
		}
	}
}

// 7.1: Order

// ordered is right values, each ahead of those behind it.
func ordered() []api.Value {
	return []api.Value{
		num(-farInt), num(1 - farInt), num(-1 << 32), num(-2), num(-1), num(0), num(1), num(2), num(10), num(1 << 32), num(farInt - 1), num(farInt),
		txt(""), txt("\x00"), txt("\x00\x00"), txt("\x00\xff"), txt("\x01"), txt(" "), txt("10"), txt("9"), txt("A"), txt("B"), txt("a"), txt("a\x00"), txt("aa"), txt("ab"), txt("abc"), txt("abd"), txt("b"), txt("ba"),
		txt("\x7f"), txt("\x7f\xff"), txt("\x80"), txt("\xc3\xa4"), txt("\xed\xa0\x80"), txt("\xff"), txt("\xff\x00"), txt(strings.Repeat("\xff", farText)),
		spot(-farPart, -farPart), spot(-farPart, farPart), spot(-1, 5), spot(0, -farPart), spot(0, -1), spot(0, 0), spot(0, 1), spot(1, -5), spot(1, 0), spot(1, 9), spot(2, -9), spot(farPart, -farPart), spot(farPart, farPart),
	}
}

func TestOrderOfKnownValues(t *testing.T) {
	l := ordered()
	for i, a := range l {
		for j, b := range l {
			want := 0
			if i < j {
				want = -1
			}
			if i > j {
				want = 1
			}
			if got := Order(a, b); got != want {
				t.Errorf("Order of %v and %v = %d, want %d", a, b, got, want)
			}
		}
	}
}

func TestOrderOfAllBytes(t *testing.T) {
	for a := range 256 {
		for b := range 256 {
			first, second := string([]byte{byte(a)}), string([]byte{byte(b)})
			if got, want := Order(txt(first), txt(second)), max(-1, min(1, a-b)); got != want {
				t.Errorf("Order of %q and %q = %d, want %d", first, second, got, want)
			}
		}
	}
}

func TestOrderOfWhateverValues(t *testing.T) {
	l := append(wrongs(), ordered()...)
	for _, a := range l {
		for _, b := range l {
			if got := Order(a, b); got < -1 || got > 1 {
				t.Errorf("Order of %v and %v = %d", a, b, got)
			}
		}
	}
}

// 7.1: Bytes

func TestBytesOfKnownValues(t *testing.T) {
	for want, v := range map[string]api.Value{
		"\x00\x00\x00":                                 num(0),
		"\x00\x00\x01":                                 num(1),
		"\x00\x00\xac\x02":                             num(300),
		"\x00\x00\xff\xff\xff\x3f":                     num(1<<27 - 1),
		"\x00\x02\x00":                                 num(1 << 27),
		"\x00\x02\x01":                                 num(1<<27 + 1),
		"\x00\x01\xff\xff\xff\x3f":                     num(-1),
		"\x00\x01\x00":                                 num(-1 << 27),
		"\x00\x03\xff\xff\xff\x3f":                     num(-1<<27 - 1),
		"\x00\x03\x00":                                 num(-2 << 27),
		"\x00\xfe\xff\xff\x3f\xff\xff\xff\x3f":         num(farInt - 1),
		"\x00\x80\x80\x80\x40\x00":                     num(farInt),
		"\x00\xff\xff\xff\x3f\x00":                     num(-farInt),
		"\x00\xff\xff\xff\x3f\x01":                     num(1 - farInt),
		"\x01\x00":                                     txt(""),
		"\x01\x03abc":                                  txt("abc"),
		"\x01\x02\x00\xff":                             txt("\x00\xff"),
		"\x01\x80\x20" + strings.Repeat("\"", farText): txt(strings.Repeat("\"", farText)),
		"\x02\x00\x00":                                 spot(0, 0),
		"\x02\x06\x07":                                 spot(3, -4),
		"\x02\x80\x80\x80\x10\xff\xff\xff\x0f":         spot(farPart, -farPart),
	} {
		if got := Bytes(v); got != want {
			t.Errorf("Bytes of %v = %q, want %q", v, got, want)
		}
		reads(t, want, v, 0, api.OK)
	}
}

func TestBytesAreAsTheChapterSays(t *testing.T) {
	for _, v := range rights() {
		if got, want := Bytes(v), slowBytes(v); got != want {
			t.Errorf("Bytes of %v = %s, want %s", v, clip(got), clip(want))
		}
	}
}

func TestWrongValuesHaveNoBytesAndAreNotWritten(t *testing.T) {
	for _, v := range wrongs() {
		if got := Bytes(v); got != "" {
			t.Errorf("Bytes of %v = %s", v, clip(got))
		}
		if got := Write(v); got != "" {
			t.Errorf("Write of %v = %s", v, clip(got))
		}
	}
}

// 7.1: Read

func TestReadOfNothing(t *testing.T) {
	reads(t, "", zero, 0, api.ErrShort)
	if v, e := Read(nil); v != zero || e != api.ErrShort {
		t.Errorf("Read of nil = %v, %d", v, e)
	}
	x := tape.New("\x01\x00")
	if v, e := Read(x); v != txt("") || e != api.OK {
		t.Errorf("Read = %v, %d", v, e)
	}
	if v, e := Read(x); v != zero || e != api.ErrShort {
		t.Errorf("Read of a tape that has ended = %v, %d", v, e)
	}
}

func TestReadOfKindsThatAreNone(t *testing.T) {
	for _, kind := range []int{3, 4, 5, 127, 128, 255, 256, 257, 258, 1 << 32, 1<<32 + 1, 1<<53 - 1} {
		for _, behind := range []string{"", "\x00", "\x00\x00", "\x00\x00\x00", "\x80", "\x80\x00", "\x03abc"} {
			reads(t, tape.Num(kind)+behind, zero, 0, api.ErrForm)
		}
	}
	reads(t, "\x80", zero, 0, api.ErrShort)
	reads(t, "\x80\x00", zero, 0, api.ErrForm)
	reads(t, "\x81\x00\x00", zero, 0, api.ErrForm)
	reads(t, strings.Repeat("\xff", 8)+"\x00\x00", zero, 0, api.ErrForm)
}

func TestReadOfNumbers(t *testing.T) {
	for _, c := range []struct {
		quotient, rest int
		want           api.Value
		e              api.Errno
	}{
		{0, 0, num(0), api.OK},
		{0, 1<<27 - 1, num(1<<27 - 1), api.OK},
		{-1, 1<<27 - 1, num(-1), api.OK},
		{-1, 0, num(-1 << 27), api.OK},
		{1 << 26, 0, num(farInt), api.OK},
		{1<<26 - 1, 1<<27 - 1, num(farInt - 1), api.OK},
		{-1 << 26, 0, num(-farInt), api.OK},
		{-1 << 26, 1, num(1 - farInt), api.OK},
		// The rest isn't one, though the number might be right.
		{0, 1 << 27, zero, api.ErrForm},
		{0, 1<<27 + 1, zero, api.ErrForm},
		{-1, 1 << 27, zero, api.ErrForm},
		{-1, 1<<28 - 1, zero, api.ErrForm},
		{-1 << 26, 1 << 27, zero, api.ErrForm},
		{-1<<26 - 1, 1 << 27, zero, api.ErrForm},
		{1<<26 - 1, 1 << 27, zero, api.ErrForm},
		{0, 1 << 32, zero, api.ErrForm},
		{0, 1<<32 + 1, zero, api.ErrForm},
		{0, 1<<53 - 1, zero, api.ErrForm},
		{-1 << 26, 1<<53 - 1, zero, api.ErrForm},
		// The number is out of range.
		{1 << 26, 1, zero, api.ErrForm},
		{1 << 26, 1<<27 - 1, zero, api.ErrForm},
		{1<<26 + 1, 0, zero, api.ErrForm},
		{-1<<26 - 1, 0, zero, api.ErrForm},
		{-1<<26 - 1, 1<<27 - 1, zero, api.ErrForm},
		{1 << 36, 0, zero, api.ErrForm},
		{-1 << 36, 0, zero, api.ErrForm},
		{1 << 37, 0, zero, api.ErrForm},
		{1 << 37, 5, zero, api.ErrForm},
		{-1 << 37, 0, zero, api.ErrForm},
		{-1 << 37, 5, zero, api.ErrForm},
		{1<<37 + 1, 0, zero, api.ErrForm},
		{-1<<37 - 1, 1, zero, api.ErrForm},
		{1 << 40, 7, zero, api.ErrForm},
		{1<<52 - 1, 1<<27 - 1, zero, api.ErrForm},
		{-1 << 52, 0, zero, api.ErrForm},
		{-1 << 52, 1<<53 - 1, zero, api.ErrForm},
	} {
		for _, behind := range []string{"", "\x00", "\xff\xff"} {
			reads(t, "\x00"+tape.Whole(c.quotient)+tape.Num(c.rest)+behind, c.want, len(behind), c.e)
		}
	}
}

func TestReadOfPoints(t *testing.T) {
	inside := []int{0, 1, -1, 3, -4, 4096, farPart - 1, farPart, 1 - farPart, -farPart}
	outside := []int{farPart + 1, farPart + 2, -farPart - 1, -farPart - 2, 1 << 32, 1<<32 + 1, -1 << 32, 1<<52 - 1, -1 << 52}
	for _, x := range append(inside, outside...) {
		for _, y := range append(inside, outside...) {
			laid := "\x02" + tape.Whole(x) + tape.Whole(y)
			if slices.Contains(inside, x) && slices.Contains(inside, y) {
				reads(t, laid+"\x80", spot(x, y), 1, api.OK)
			} else {
				reads(t, laid+"\x80", zero, 0, api.ErrForm)
			}
		}
	}
}

func TestReadOfTexts(t *testing.T) {
	for _, size := range []int{0, 1, 127, 128, 4095, 4096} {
		s := strings.Repeat("\xfe", size)
		reads(t, "\x01"+tape.Text(s), txt(s), 0, api.OK)
		reads(t, "\x01"+tape.Text(s)+"\x00\x01", txt(s), 2, api.OK)
		if size > 0 {
			reads(t, "\x01"+tape.Num(size), zero, 0, api.ErrShort)
			reads(t, "\x01"+tape.Num(size)+s[1:], zero, 0, api.ErrShort)
		}
	}
	for _, size := range []int{4097, 4098, 1 << 16, 1 << 32, 1<<53 - 1} {
		for _, behind := range []int{0, 1, 4095, 4096, 4097, 4098, 1 << 16} {
			reads(t, "\x01"+tape.Num(size)+strings.Repeat("a", behind), zero, 0, api.ErrLarge)
		}
	}
}

func TestReadOfBytesThatAreNoNumbersInEachPart(t *testing.T) {
	no := map[string]api.Errno{
		"": api.ErrShort, "\x80": api.ErrShort, strings.Repeat("\xff", 7): api.ErrShort,
		"\x80\x00": api.ErrForm, "\xff\x80\x00": api.ErrForm, strings.Repeat("\x80", 8): api.ErrForm, strings.Repeat("\xff", 7) + "\x10": api.ErrForm,
	}
	far := tape.Whole(1<<52 - 1)
	for s, e := range no {
		reads(t, s, zero, 0, e)
		reads(t, "\x01"+s, zero, 0, e)
		for _, kind := range []string{"\x00", "\x02"} {
			reads(t, kind+s, zero, 0, e)
			reads(t, kind+"\x05"+s, zero, 0, e)
			// The first part is out of range, but what bytes are none of is named first.
			reads(t, kind+far+s, zero, 0, e)
			if e == api.ErrForm {
				reads(t, kind+s+"\x00", zero, 0, e)
				reads(t, kind+s+"\x80", zero, 0, e)
			}
		}
	}
}

func TestReadOfValuesCutShort(t *testing.T) {
	for _, v := range append(ordered(), num(-1<<40), num(1<<40+12345), spot(-70000, 70000), txt(strings.Repeat("ab", 300))) {
		laid := Bytes(v)
		for size := range laid {
			reads(t, laid[:size], zero, 0, api.ErrShort)
		}
	}
}

func TestReadIsAsTheChapterSays(t *testing.T) {
	hold := func(s string) {
		want, left, e := slowRead(s)
		reads(t, s, want, left, e)
	}
	for a := range 256 {
		hold(string([]byte{byte(a)}))
		for b := range 256 {
			hold(string([]byte{byte(a), byte(b)}))
			for _, kind := range []byte{0, 1, 2, 3} {
				hold(string([]byte{kind, byte(a), byte(b)}))
				hold(string([]byte{kind, byte(a), byte(b), 0x80, 0x05}))
			}
		}
	}
	var ch chance
	for range 200000 {
		s := ch.text(1, "\x00\x00\x01\x02\x02\x03\x80") + ch.text(ch.below(14), "\x00\x01\x02\x07\x0f\x1f\x3f\x40\x7f\x80\x80\x81\xfe\xff\xff")
		hold(s)
	}
}

func TestReadOneBehindTheOther(t *testing.T) {
	l := ordered()
	laid := ""
	for _, v := range l {
		laid += Bytes(v)
	}
	x := tape.New(laid + "\xff")
	for i, want := range l {
		if v, e := Read(x); v != want || e != api.OK {
			t.Errorf("the value %d = %v, %d, want %v", i, v, e, want)
		}
	}
	if x.Left() != 1 {
		t.Errorf("%d bytes are left, want 1", x.Left())
	}
}

// 7.2: Write

func TestWriteOfKnownValues(t *testing.T) {
	for want, v := range map[string]api.Value{
		"0":                          num(0),
		"7":                          num(7),
		"-7":                         num(-7),
		"10":                         num(10),
		"-100":                       num(-100),
		"9007199254740992":           num(farInt),
		"-9007199254740992":          num(-farInt),
		`""`:                         txt(""),
		`"abc"`:                      txt("abc"),
		`" !#$[]^~"`:                 txt(" !#$[]^~"),
		`"\22\5c"`:                   txt("\"\\"),
		`"\00\09\0a\1f\7f\80\ab\ff"`: txt("\x00\t\n\x1f\x7f\x80\xab\xff"),
		`"\c3\a4"`:                   txt("ä"),
		`"\5c00"`:                    txt(`\00`),
		"3:-4":                       spot(3, -4),
		"0:0":                        spot(0, 0),
		"-16777216:16777216":         spot(-farPart, farPart),
	} {
		if got := Write(v); got != want {
			t.Errorf("Write of %v = %s, want %s", v, got, want)
		}
		parses(t, want, v, len(want), api.OK)
	}
}

func TestWriteOfEachByte(t *testing.T) {
	for b := range 256 {
		s := string([]byte{byte(b)})
		want := fmt.Sprintf(`"\%02x"`, b)
		if b >= 32 && b <= 126 && b != '"' && b != '\\' {
			want = `"` + s + `"`
		}
		if got := Write(txt(s)); got != want {
			t.Errorf("Write of the byte %d = %s, want %s", b, got, want)
		}
	}
}

func TestWriteIsAsTheChapterSays(t *testing.T) {
	for _, v := range rights() {
		if got, want := Write(v), slowWrite(v); got != want {
			t.Errorf("Write of %v = %s, want %s", v, clip(got), clip(want))
		}
	}
}

// 7.2: Parse

func TestParseOfTheExample(t *testing.T) {
	parses(t, `"a\0a"x`, txt("a\n"), 6, api.OK)
	parses(t, "3:-4", spot(3, -4), 4, api.OK)
}

func TestParseOfFirstBytesThatBeginNoValue(t *testing.T) {
	parses(t, "", zero, 0, api.ErrWord)
	for b := range 256 {
		if strings.IndexByte("-0123456789\"", byte(b)) >= 0 {
			continue
		}
		for _, behind := range []string{"", "1", "\"a\"", "-", "1:2"} {
			parses(t, string([]byte{byte(b)})+behind, zero, 0, api.ErrWord)
		}
	}
}

func TestParseOfWrongNumbers(t *testing.T) {
	for s, e := range map[string]api.Errno{
		"-":     api.ErrShort,
		"-0":    api.ErrForm,
		"-00":   api.ErrForm,
		"-0:1":  api.ErrForm,
		"-01":   api.ErrForm,
		"-a":    api.ErrForm,
		"--1":   api.ErrForm,
		"-:":    api.ErrForm,
		"-:1":   api.ErrForm,
		"- 1":   api.ErrForm,
		"-\"":   api.ErrForm,
		"00":    api.ErrForm,
		"01":    api.ErrForm,
		"09:1":  api.ErrForm,
		"000":   api.ErrForm,
		"1:":    api.ErrShort,
		"0:":    api.ErrShort,
		"-1:":   api.ErrShort,
		"1:-":   api.ErrShort,
		"1:-0":  api.ErrForm,
		"0:-0":  api.ErrForm,
		"1:-a":  api.ErrForm,
		"1:--1": api.ErrForm,
		"1:-:":  api.ErrForm,
		"1:a":   api.ErrForm,
		"1::":   api.ErrForm,
		"1: 2":  api.ErrForm,
		"1:\"":  api.ErrForm,
		"1:00":  api.ErrForm,
		"1:01":  api.ErrForm,
		"1:-01": api.ErrForm,
		"-5:09": api.ErrForm,
	} {
		parses(t, s, zero, 0, e)
		parsesAsTheChapterSays(t, s)
	}
	for b := range 256 {
		if byte(b) < '0' || byte(b) > '9' {
			parses(t, "-"+string([]byte{byte(b)}), zero, 0, api.ErrForm)
			parses(t, "1:-"+string([]byte{byte(b)}), zero, 0, api.ErrForm)
			if b != '-' {
				parses(t, "1:"+string([]byte{byte(b)}), zero, 0, api.ErrForm)
			}
		}
	}
}

func TestParseOfNumbersOutOfRange(t *testing.T) {
	for _, s := range []string{
		"9007199254740993", "9007199254740994", "9007199254741000", "9007199254750000", "9100000000000000", "10000000000000000", "90071992547409920",
		"9223372036854775807", "9223372036854775808", "9223372036854775809", "18446744073709551615", "18446744073709551616", "18446744073709551617", "18446744073709551621", "184467440737095516160",
		"36893488147419103232", "340282366920938463463374607431768211456", "1" + strings.Repeat("0", 64), "1" + strings.Repeat("0", 1<<20), strings.Repeat("9", 1<<20),
	} {
		for _, sign := range []string{"", "-"} {
			for _, behind := range []string{"", " ", "a", ")", "-", "\""} {
				parses(t, sign+s+behind, zero, 0, api.ErrRange)
			}
			parses(t, sign+s+":0", zero, 0, api.ErrRange)
			parses(t, "0:"+sign+s, zero, 0, api.ErrRange)
			parses(t, sign+s+":"+sign+s, zero, 0, api.ErrRange)
		}
	}
	parses(t, "9007199254740992", num(farInt), 16, api.OK)
	parses(t, "-9007199254740992", num(-farInt), 17, api.OK)
	parses(t, "9007199254740991", num(farInt-1), 16, api.OK)
}

func TestParseOfPointsOutOfRange(t *testing.T) {
	for _, s := range []string{"16777217", "16777218", "33554432", "4294967296", "4294967297", "9007199254740992", "9007199254740993"} {
		for _, sign := range []string{"", "-"} {
			for _, other := range []string{"0", "1", "-1", "16777216", "-16777216", "16777217"} {
				parses(t, sign+s+":"+other, zero, 0, api.ErrRange)
				parses(t, other+":"+sign+s, zero, 0, api.ErrRange)
				parses(t, other+":"+sign+s+":", zero, 0, api.ErrRange)
			}
		}
	}
	// What is a right number may be no point's part, and the other way round nothing is asked of a point's part alone.
	parses(t, "16777217", num(16777217), 8, api.OK)
	parses(t, "16777216:-16777216", spot(farPart, -farPart), 18, api.OK)
}

// A point is one at its end: what must not stand ahead of there, and an end that is missing, come first.
func TestParseOfPointsOutOfRangeThatDoNotEnd(t *testing.T) {
	for _, s := range []string{"16777217", "-16777217", "9007199254740993", "-9007199254740993", "9223372036854775808", strings.Repeat("9", 400)} {
		for behind, e := range map[string]api.Errno{":": api.ErrShort, ":-": api.ErrShort, ":a": api.ErrForm, "::": api.ErrForm, ":-a": api.ErrForm, ":-0": api.ErrForm, ":01": api.ErrForm, ":00": api.ErrForm} {
			parses(t, s+behind, zero, 0, e)
		}
	}
	parses(t, "0"+strings.Repeat("9", 400), zero, 0, api.ErrForm)
	parses(t, "1:0"+strings.Repeat("9", 400), zero, 0, api.ErrForm)
	parses(t, "-0"+strings.Repeat("9", 400), zero, 0, api.ErrForm)
}

func TestParseOfEachByteInQuotes(t *testing.T) {
	for b := range 256 {
		s := string([]byte{byte(b)})
		plain := b >= 32 && b <= 126 && b != '"' && b != '\\'
		if plain {
			parses(t, `"`+s+`"`, txt(s), 3, api.OK)
			parses(t, `"`+s, zero, 0, api.ErrShort)
		} else if b != '"' && b != '\\' {
			parses(t, `"`+s+`"`, zero, 0, api.ErrForm)
			parses(t, `"`+s, zero, 0, api.ErrForm)
			parses(t, `"ab`+s+`"`, zero, 0, api.ErrForm)
		}
		written := fmt.Sprintf(`"\%02x`, b)
		if plain {
			parses(t, written+`"`, zero, 0, api.ErrForm)
			parses(t, written, zero, 0, api.ErrForm)
		} else {
			parses(t, written+`"`, txt(s), 5, api.OK)
			parses(t, written, zero, 0, api.ErrShort)
		}
		if strings.ToUpper(written) != written {
			parses(t, strings.ToUpper(written)+`"`, zero, 0, api.ErrForm)
		}
	}
}

func TestParseOfWhatStandsBehindABackslash(t *testing.T) {
	parses(t, `"\`, zero, 0, api.ErrShort)
	parses(t, `"\"`, zero, 0, api.ErrForm)
	parses(t, `"\\`, zero, 0, api.ErrForm)
	parses(t, `"\\"`, zero, 0, api.ErrForm)
	parses(t, `"\n"`, zero, 0, api.ErrForm)
	for a := range 256 {
		first := string([]byte{byte(a)})
		digit := strings.Contains("0123456789abcdef", first)
		parsesAsTheChapterSays(t, `"\`+first)
		if digit {
			parses(t, `"\`+first, zero, 0, api.ErrShort)
		} else {
			parses(t, `"\`+first, zero, 0, api.ErrForm)
			parses(t, `"\0`+first+`"`, zero, 0, api.ErrForm)
			parses(t, `"\`+first+`0"`, zero, 0, api.ErrForm)
		}
		for b := range 256 {
			both := first + string([]byte{byte(b)})
			parsesAsTheChapterSays(t, `"\`+both+`"`)
			parsesAsTheChapterSays(t, `"x\`+both)
			parsesAsTheChapterSays(t, `"\`+both+"0y\"z")
		}
	}
}

func TestParseOfAQuoteThatIsMissing(t *testing.T) {
	for _, s := range []string{`"`, `"a`, `"abc`, `" `, `"\00`, `"\22`, `"\5c`, `"a\22`, `"1:2`} {
		parses(t, s, zero, 0, api.ErrShort)
	}
	// A byte that must not stand comes ahead of an end that is missing.
	for _, s := range []string{"\"\t", "\"abc\n", "\"abc\nabc", "\"\x7f", "\"\xffabc", `"\41`, `"\41abc`, `"\0g`, `"\0Aabc`} {
		parses(t, s, zero, 0, api.ErrForm)
	}
}

func TestParseOfLongTexts(t *testing.T) {
	for _, one := range []string{"a", " ", `\00`, `\ff`, `\22`} {
		b := one
		if len(one) == 3 {
			l, _ := hex.DecodeString(one[1:])
			b = string(l)
		}
		for _, size := range []int{4095, 4096} {
			s := `"` + strings.Repeat(one, size)
			parses(t, s+`"`, txt(strings.Repeat(b, size)), len(s)+1, api.OK)
			parses(t, s+`"a"`, txt(strings.Repeat(b, size)), len(s)+1, api.OK)
			parses(t, s, zero, 0, api.ErrShort)
		}
		for _, size := range []int{4097, 4098, 8192, 1 << 18} {
			s := `"` + strings.Repeat(one, size)
			parses(t, s+`"`, zero, 0, api.ErrLarge)
			parses(t, s+`"a`, zero, 0, api.ErrLarge)
			// It is too large at its end alone.
			parses(t, s, zero, 0, api.ErrShort)
			parses(t, s+`\`, zero, 0, api.ErrShort)
			parses(t, s+`\0`, zero, 0, api.ErrShort)
			parses(t, s+"\n\"", zero, 0, api.ErrForm)
			parses(t, s+`\41"`, zero, 0, api.ErrForm)
			parses(t, s+"\n", zero, 0, api.ErrForm)
		}
	}
}

func TestParseLeavesWhatStandsBehind(t *testing.T) {
	for _, v := range []api.Value{num(0), num(-17), num(farInt), txt(""), txt("a\n\""), spot(0, 0), spot(3, -4), spot(-3, 4)} {
		written := Write(v)
		for b := range 256 {
			behind := string([]byte{byte(b)})
			if v.Kind != 1 && b >= '0' && b <= '9' || v.Kind == 0 && b == ':' {
				continue
			}
			parses(t, written+behind, v, len(written), api.OK)
			parses(t, written+behind+"1\"", v, len(written), api.OK)
		}
	}
	parses(t, "1:2:3", spot(1, 2), 3, api.OK)
	parses(t, "1-2", num(1), 1, api.OK)
	parses(t, "0-0", num(0), 1, api.OK)
	parses(t, "0a", num(0), 1, api.OK)
	parses(t, "0:0-", spot(0, 0), 3, api.OK)
	parses(t, `""""`, txt(""), 2, api.OK)
}

func TestParseIsAsTheChapterSaysOfAllShortTexts(t *testing.T) {
	const of = "-0127:\"\\afA \x80"
	short := []string{""}
	for range 5 {
		var longer []string
		for _, s := range short {
			parsesAsTheChapterSays(t, s)
			for i := range len(of) {
				longer = append(longer, s+of[i:i+1])
			}
		}
		short = longer
	}
	for _, s := range short {
		parsesAsTheChapterSays(t, s)
	}
}

func TestParseIsAsTheChapterSaysOfTextsOfChance(t *testing.T) {
	var ch chance
	for range 100000 {
		parsesAsTheChapterSays(t, `"`+ch.text(ch.below(12), "\"\\\\\\0012257fcefax ~\x1f\x7f\x80A"))
		parsesAsTheChapterSays(t, ch.text(1, "-1234567890")+ch.text(ch.below(10), "0123456789"))
		parsesAsTheChapterSays(t, ch.text(1, "-123")+ch.text(ch.below(20), "0123456789012345678901234567890123456789:-"))
		parsesAsTheChapterSays(t, strconv.Itoa(ch.whole(26))+":"+strconv.Itoa(ch.whole(26))+ch.text(ch.below(3), ":-\" 0"))
		parsesAsTheChapterSays(t, strconv.Itoa(ch.whole(55))+ch.text(ch.below(3), ":-\" 0"))
	}
}

// 7.3: there and back, and the order

func TestWhatIsLaidIsReadAsItWas(t *testing.T) {
	for _, v := range rights() {
		reads(t, Bytes(v), v, 0, api.OK)
		reads(t, Bytes(v)+"\x00\x80", v, 2, api.OK)
	}
}

func TestWhatIsWrittenIsReadAsItWas(t *testing.T) {
	for _, v := range rights() {
		s := Write(v)
		parses(t, s, v, len(s), api.OK)
		parses(t, s+")", v, len(s), api.OK)
	}
}

func TestNothingElseIsRead(t *testing.T) {
	var ch chance
	for range 100000 {
		s := ch.text(1, "\x00\x01\x02") + ch.text(ch.below(10), "\x00\x01\x02\x03\x3f\x40\x7f\x80\x80\xff")
		x := tape.New(s)
		if v, e := Read(x); e == api.OK && (!Right(v) || Bytes(v) != s[:len(s)-x.Left()]) {
			t.Errorf("%q is read as %v, whose bytes are %q", s, v, Bytes(v))
		}
		s = ch.text(1, "-012\"") + ch.text(ch.below(10), "-0129:\"\\\\afAx\x00")
		if v, n, e := Parse(s); e == api.OK && (!Right(v) || Write(v) != s[:n]) {
			t.Errorf("%q is read as %v, which is written %q", s, v, Write(v))
		}
	}
}

func TestTheOrderIsOne(t *testing.T) {
	l := ordered()
	var ch chance
	for range 60 {
		l = append(l, ch.value())
	}
	for _, a := range l {
		for _, b := range l {
			first := Order(a, b)
			if first != -Order(b, a) || (first == 0) != (a == b) {
				t.Errorf("Order of %v and %v = %d, the other way round %d", a, b, first, Order(b, a))
			}
			for _, c := range l {
				if first <= 0 && Order(b, c) <= 0 && Order(a, c) > 0 {
					t.Errorf("%v, %v, %v come each ahead of the next one, and the first behind the last", a, b, c)
				}
			}
		}
	}
}

func TestValuesAreSortedOneWay(t *testing.T) {
	want := ordered()
	l := ordered()
	var ch chance
	for range 50 {
		for i := range l {
			j := ch.below(i + 1)
			l[i], l[j] = l[j], l[i]
		}
		slices.SortFunc(l, Order)
		if !slices.Equal(l, want) {
			t.Fatalf("sorted: %v", l)
		}
	}
}

// Rules 4 and 6: memory, and what calls hang on

// shares tells whether two texts have a byte of memory in common.
func shares(a, b string) bool {
	if a == "" || b == "" {
		return false
	}
	from, other := uintptr(unsafe.Pointer(unsafe.StringData(a))), uintptr(unsafe.Pointer(unsafe.StringData(b)))
	return from < other+uintptr(len(b)) && other < from+uintptr(len(a))
}

func TestWhatIsHandedOutIsNew(t *testing.T) {
	s := strings.Repeat("stook ", 20)
	laid, written := Bytes(txt(s)), Write(txt(s))
	if shares(laid, s) || shares(written, s) || shares(laid, Bytes(txt(s))) || shares(written, Write(txt(s))) {
		t.Errorf("Bytes or Write shares memory with what it was handed, or with an earlier answer")
	}
	v, _, _ := Parse(written)
	w, _, _ := Parse(written)
	if v.S != s || w.S != s || shares(v.S, written) || shares(v.S, w.S) {
		t.Errorf("Parse shares memory with what it was handed, or with an earlier answer")
	}
	x := tape.New(laid + laid)
	v, _ = Read(x)
	w, _ = Read(x)
	if v.S != s || w.S != s || shares(v.S, laid) || shares(v.S, w.S) {
		t.Errorf("Read shares memory with what was laid, or with an earlier answer")
	}
}

func TestAnAnswerDoesNotFollowItsArgument(t *testing.T) {
	room := []byte(`"abc"`)
	v, _, _ := Parse(unsafe.String(&room[0], len(room)))
	copy(room, "xxxxx")
	if v != txt("abc") {
		t.Errorf("Parse = %v", v)
	}
	room = []byte("abc")
	laid := Bytes(txt(unsafe.String(&room[0], len(room))))
	written := Write(txt(unsafe.String(&room[0], len(room))))
	copy(room, "xxx")
	if laid != "\x01\x03abc" || written != `"abc"` {
		t.Errorf("Bytes = %q, Write = %q", laid, written)
	}
}

func TestCallsDoNotHangOnEarlierOnes(t *testing.T) {
	for range 2 {
		parses(t, `"a`, zero, 0, api.ErrShort)
		parses(t, "-5", num(-5), 2, api.OK)
		parses(t, "-", zero, 0, api.ErrShort)
		parses(t, `"a"`, txt("a"), 3, api.OK)
		reads(t, "\x01\x05ab", zero, 0, api.ErrShort)
		reads(t, "\x02\x06\x07", spot(3, -4), 0, api.OK)
	}
}
