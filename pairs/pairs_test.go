package pairs

import (
	"encoding/binary"
	"fmt"
	"iter"
	"math"
	"math/big"
	"slices"
	"strconv"
	"strings"
	"testing"
	"unsafe"

	"stook/api"
)

const (
	// mostKey is how many bytes a right key may have, mostText a right text; farInt is how far out a right number may be, farPart a part of a right point.
	mostKey  = 64
	mostText = 4096
	farInt   = 1 << 53
	farPart  = 1 << 24
)

func num(n int) api.Value     { return api.Value{N: n} }
func txt(s string) api.Value  { return api.Value{Kind: 1, S: s} }
func spot(x, y int) api.Value { return api.Value{Kind: 2, P: api.Spot{X: x, Y: y}} }

func pair(key string, v api.Value) api.Pair { return api.Pair{Key: key, Val: v} }

// counted is these keys, each with its place as its value.
func counted(keys ...string) []api.Pair {
	l := make([]api.Pair, len(keys))
	for i, key := range keys {
		l[i] = pair(key, num(i))
	}
	return l
}

// clip is something as a fault tells it.
func clip(v any) string {
	s := strconv.QuoteToASCII(fmt.Sprint(v))
	if len(s) > 400 {
		return s[:200] + ".." + s[len(s)-200:]
	}
	return s
}

// chance is a row of numbers that looks like chance and is the same each time.
type chance uint32

func (c *chance) below(n int) int {
	*c = *c*1664525 + 1013904223
	return int(*c>>16) % n
}

// whole is a number of chance with at most so many bits, as often a small one as a great one, on both sides of 0.
func (c *chance) whole(bits int) int {
	n := c.below(1<<16)<<48 | c.below(1<<16)<<32 | c.below(1<<16)<<16 | c.below(1<<16)
	n &= 1<<c.below(bits+1) - 1
	if c.below(2) == 0 {
		return -n
	}
	return n
}

// text is a text of chance, of so many bytes.
func (c *chance) text(size int) string {
	text := make([]byte, size)
	for i := range text {
		text[i] = byte(c.below(256))
	}
	return string(text)
}

// value is a right value of chance.
func (c *chance) value() api.Value {
	switch c.below(3) {
	case 0:
		return num(c.whole(53))
	case 1:
		return txt(c.text(c.below(12)))
	}
	return spot(c.whole(24), c.whole(24))
}

// list is a right list of chance, of so many pairs, with keys out of these.
func (c *chance) list(size int, keys []string) []api.Pair {
	l := make([]api.Pair, size)
	for i := range l {
		l[i] = pair(keys[c.below(len(keys))], c.value())
	}
	return l
}

// Keys, values and lists of which some are easily taken wrong

// keys is right keys: of nothing, of as many bytes as may be, such as begin alike, and such as differ in their last byte alone.
func keys() []string {
	l := []string{"", "a", "aa", "ab", "abc", "b", "ba", "A", "Z", "z", "ä", "€", "0", "1", "10", "2", " ", "key", "keys", "\n", strings.Repeat("\x00", mostKey), strings.Repeat("\xff", mostKey)}
	for _, ahead := range []string{"", "a", "b", "ab", "\x00", "\x7f", "\x80", "\xff", strings.Repeat("k", mostKey-1), strings.Repeat("\xff", mostKey-1)} {
		for _, last := range []string{"\x00", "\x01", "\x7f", "\x80", "\x81", "\xfe", "\xff"} {
			l = append(l, ahead, ahead+last)
		}
	}
	slices.Sort(l)
	return slices.Compact(l)
}

// longKeys is keys that have too many bytes.
func longKeys() []string {
	return []string{strings.Repeat("a", mostKey+1), strings.Repeat("\x00", mostKey+1), strings.Repeat("ä", mostKey/2+1), strings.Repeat("b", 127), strings.Repeat("b", 128), strings.Repeat("c", mostText), strings.Repeat("d", 1<<16)}
}

// rightValues is right values of each kind, out to their edges.
func rightValues() []api.Value {
	return []api.Value{
		num(0), num(1), num(-1), num(1<<27 - 1), num(1 << 27), num(-1 << 27), num(-1<<27 - 1), num(farInt), num(-farInt), num(farInt - 1), num(1 - farInt),
		txt(""), txt("a"), txt("\x00"), txt("\xff\x80"), txt(strings.Repeat("x", 127)), txt(strings.Repeat("x", 128)), txt(strings.Repeat("\xff", mostText)),
		spot(0, 0), spot(3, -4), spot(farPart, farPart), spot(-farPart, farPart), spot(farPart, -farPart), spot(-farPart, -farPart),
	}
}

// wrongValues is values that aren't right: out of their range, too long, of no kind, with another kind's part.
func wrongValues() []api.Value {
	return []api.Value{
		num(farInt + 1), num(-farInt - 1), num(math.MaxInt), num(math.MinInt),
		txt(strings.Repeat("x", mostText+1)), txt(strings.Repeat("x", 1<<16)),
		spot(farPart+1, 0), spot(0, farPart+1), spot(-farPart-1, 0), spot(0, -farPart-1), spot(math.MinInt, math.MaxInt),
		{Kind: 3}, {Kind: -1}, {Kind: 4, N: 1}, {Kind: math.MaxInt}, {Kind: math.MinInt}, {Kind: 1 << 32},
		{Kind: 0, S: "a"}, {Kind: 0, P: api.Spot{X: 1}}, {Kind: 1, N: 1}, {Kind: 1, S: "a", P: api.Spot{Y: 1}}, {Kind: 2, N: 1}, {Kind: 2, S: "a"},
	}
}

// wrongPairs is pairs that aren't right.
func wrongPairs() []api.Pair {
	var l []api.Pair
	for _, key := range longKeys() {
		l = append(l, pair(key, num(1)), pair(key, txt("a")), pair(key, num(farInt+1)))
	}
	for _, v := range wrongValues() {
		l = append(l, pair("", v), pair("a", v), pair(strings.Repeat("k", mostKey), v))
	}
	return l
}

// rightLists is right lists: of none, of one, of many, sorted and not, of one key, of all keys and values.
func rightLists() [][]api.Pair {
	all := keys()
	l := [][]api.Pair{
		nil, {}, counted("a"), counted(""), counted("b", "a", "b", ""), counted("a", "a", "a"), counted(all...),
		{pair("b", num(1)), pair("a", num(2)), pair("b", num(0))},
		{pair("k", num(9)), pair("k", txt("z")), pair("k", num(-9)), pair("k", spot(1, 2)), pair("k", txt("")), pair("k", num(9))},
	}
	backwards := counted(all...)
	slices.Reverse(backwards)
	l = append(l, backwards)
	var values []api.Pair
	for i, v := range rightValues() {
		l = append(l, []api.Pair{pair(all[i%len(all)], v)})
		values = append(values, pair(all[(7*i)%len(all)], v), pair("one", v))
	}
	l = append(l, values)
	var ch chance
	for size := range 70 {
		l = append(l, ch.list(size, all), ch.list(size, []string{"a", "b", ""}), ch.list(size, []string{"one"}))
	}
	for _, size := range []int{127, 128, 129, 300, 1000} {
		l = append(l, ch.list(size, all), ch.list(size, []string{"b", "a", "\x80", "\x7f"}))
	}
	return l
}

// anyLists is lists that may be sorted, whether they are right or not.
func anyLists() [][]api.Pair {
	l := rightLists()
	wrong := wrongPairs()
	l = append(l, wrong)
	for i, p := range wrong {
		l = append(l, []api.Pair{p}, []api.Pair{p, pair("", num(i)), p}, []api.Pair{pair("zz", num(i)), p, pair("k", num(-i))})
	}
	return l
}

// shortLists is all lists of up to so many pairs with keys out of these, each with its place as its value.
func shortLists(size int, keys ...string) [][]api.Pair {
	l := [][]api.Pair{nil}
	for from := 0; size > 0; size-- {
		to := len(l)
		for _, shorter := range l[from:to] {
			for _, key := range keys {
				l = append(l, append(slices.Clone(shorter), pair(key, num(len(shorter)))))
			}
		}
		from = to
	}
	return l
}

// The second rule: what the chapter says, in another way

// slowLess tells whether a key comes ahead of another one, byte by byte.
func slowLess(a, b string) bool {
	for i := range len(a) {
		if i == len(b) || a[i] > b[i] {
			return false
		}
		if a[i] < b[i] {
			return true
		}
	}
	return len(a) < len(b)
}

// slowOrdered holds each pair against all that stand ahead of it.
func slowOrdered(l []api.Pair) bool {
	for i, p := range l {
		for _, ahead := range l[:i] {
			if slowLess(p.Key, ahead.Key) {
				return false
			}
		}
	}
	return true
}

// slowSort takes, as long as there are pairs, the first one that none comes ahead of.
func slowSort(l []api.Pair) []api.Pair {
	rest := slices.Clone(l)
	var sorted []api.Pair
	for len(rest) > 0 {
		first := 0
		for i, p := range rest {
			if slowLess(p.Key, rest[first].Key) {
				first = i
			}
		}
		sorted = append(sorted, rest[first])
		rest = slices.Delete(rest, first, first+1)
	}
	return sorted
}

// group is a key and its values.
type group struct {
	key    string
	values []api.Value
}

// slowGroups is, of each key that is met, all values that stand beside it.
func slowGroups(l []api.Pair) []group {
	values := map[string][]api.Value{}
	for _, p := range l {
		values[p.Key] = append(values[p.Key], p.Val)
	}
	var groups []group
	for key, of := range values {
		groups = append(groups, group{key, of})
	}
	slices.SortFunc(groups, func(a, b group) int {
		if slowLess(a.key, b.key) {
			return -1
		}
		return 1
	})
	return groups
}

// slowRight tells whether a pair is right.
func slowRight(p api.Pair) bool {
	if len(p.Key) > mostKey {
		return false
	}
	v := p.Val
	switch v {
	case num(v.N):
		return -farInt <= v.N && v.N <= farInt
	case txt(v.S):
		return len(v.S) <= mostText
	case spot(v.P.X, v.P.Y):
		return -farPart <= v.P.X && v.P.X <= farPart && -farPart <= v.P.Y && v.P.Y <= farPart
	}
	return false
}

// slowBytes is a list's bytes, laid by the library.
func slowBytes(l []api.Pair) string {
	b := binary.AppendUvarint(nil, uint64(len(l)))
	for _, p := range l {
		b = append(binary.AppendUvarint(b, uint64(len(p.Key))), p.Key...)
		b = append(b, byte(p.Val.Kind))
		switch p.Val.Kind {
		case 0:
			quotient, rest := new(big.Int).DivMod(big.NewInt(int64(p.Val.N)), big.NewInt(1<<27), new(big.Int))
			b = binary.AppendUvarint(binary.AppendVarint(b, quotient.Int64()), rest.Uint64())
		case 1:
			b = append(binary.AppendUvarint(b, uint64(len(p.Val.S))), p.Val.S...)
		case 2:
			b = binary.AppendVarint(binary.AppendVarint(b, int64(p.Val.P.X)), int64(p.Val.P.Y))
		}
	}
	return string(b)
}

// reader reads bytes from a place on; its first error is kept, and nothing is read behind it.
type reader struct {
	s  string
	at int
	e  api.Errno
}

// fails keeps an error, if it is so, and it is the first one.
func (r *reader) fails(so bool, e api.Errno) {
	if so && r.e == api.OK {
		r.e = e
	}
}

func (r *reader) number() uint64 {
	if r.e != api.OK {
		return 0
	}
	rest := r.s[r.at:]
	last := slices.IndexFunc([]byte(rest), func(b byte) bool { return b < 128 })
	r.fails(last > 7 || last < 0 && len(rest) > 7, api.ErrForm)
	r.fails(last < 0, api.ErrShort)
	if r.e != api.OK {
		return 0
	}
	n, size := binary.Uvarint([]byte(rest))
	r.fails(n >= 1<<53 || len(binary.AppendUvarint(nil, n)) != size, api.ErrForm)
	r.at += size
	return n
}

// whole is the number's whole number: every other one is below 0.
func (r *reader) whole() int64 {
	n := int64(r.number())
	if n%2 == 0 {
		return n / 2
	}
	return -(n / 2) - 1
}

func (r *reader) text(most uint64) string {
	size := r.number()
	r.fails(size > most, api.ErrLarge)
	r.fails(size > uint64(len(r.s)-r.at), api.ErrShort)
	if r.e != api.OK {
		return ""
	}
	r.at += int(size)
	return r.s[r.at-int(size) : r.at]
}

func (r *reader) value() api.Value {
	switch kind := r.number(); kind {
	case 0:
		quotient, rest := r.whole(), r.number()
		n := new(big.Int).Mul(big.NewInt(quotient), big.NewInt(1<<27))
		n.Add(n, new(big.Int).SetUint64(rest))
		r.fails(rest >= 1<<27 || n.CmpAbs(big.NewInt(farInt)) > 0, api.ErrForm)
		return num(int(n.Int64()))
	case 1:
		return txt(r.text(mostText))
	case 2:
		v := spot(int(r.whole()), int(r.whole()))
		r.fails(!slowRight(pair("", v)), api.ErrForm)
		return v
	}
	r.fails(true, api.ErrForm)
	return api.Value{}
}

// slowRead is the list that bytes are, or the error.
func slowRead(s string) ([]api.Pair, api.Errno) {
	r := &reader{s: s}
	count := r.number()
	r.fails(count > uint64(len(s)), api.ErrLarge)
	var l []api.Pair
	for ; count > 0 && r.e == api.OK; count-- {
		l = append(l, pair(r.text(mostKey), r.value()))
	}
	r.fails(r.at < len(s), api.ErrForm)
	if r.e != api.OK {
		return nil, r.e
	}
	return l, api.OK
}

// What tests ask

// is asks whether a list is the one that is wanted.
func is(t *testing.T, what string, got, want []api.Pair) {
	t.Helper()
	if !slices.Equal(got, want) {
		t.Errorf("%s = %s, want %s", what, clip(got), clip(want))
	}
}

// groupsOf is all groups that are handed out.
func groupsOf(groups iter.Seq2[string, []api.Value]) []group {
	var l []group
	for key, values := range groups {
		l = append(l, group{key, slices.Clone(values)})
	}
	return l
}

// areGroups asks whether groups are those that are wanted.
func areGroups(t *testing.T, got, want []group) {
	t.Helper()
	alike := func(a, b group) bool { return a.key == b.key && slices.Equal(a.values, b.values) }
	if !slices.EqualFunc(got, want, alike) {
		t.Errorf("the groups are %s, want %s", clip(got), clip(want))
	}
}

// reads asks whether bytes are read as the list that is wanted.
func reads(t *testing.T, s string, want []api.Pair) {
	t.Helper()
	if l, e := Read(s); e != api.OK || !slices.Equal(l, want) {
		t.Errorf("Read of %s = %s, %d, want %s", clip(s), clip(l), e, clip(want))
	}
}

// refuses asks whether bytes are refused, with nothing beside the error.
func refuses(t *testing.T, s string, want api.Errno) {
	t.Helper()
	if l, e := Read(s); e != want || len(l) != 0 {
		t.Errorf("Read of %s = %s, %d, want %d", clip(s), clip(l), e, want)
	}
}

// readsAsTheChapterSays holds Read against slowRead, and what was read against its bytes.
func readsAsTheChapterSays(t *testing.T, s string) {
	t.Helper()
	want, e := slowRead(s)
	if e != api.OK {
		refuses(t, s, e)
		return
	}
	reads(t, s, want)
	if laid := Bytes(want); laid != s {
		t.Errorf("%s is read as %s, whose bytes are %s", clip(s), clip(want), clip(laid))
	}
}

// 11.1: Right

func TestRightOfKeys(t *testing.T) {
	for _, key := range keys() {
		if !Right([]api.Pair{pair(key, num(1))}) {
			t.Errorf("a key %s isn't right", clip(key))
		}
	}
	for _, key := range longKeys() {
		if Right([]api.Pair{pair(key, num(1))}) {
			t.Errorf("a key of %d bytes is right", len(key))
		}
	}
	for size := range 200 {
		if got, want := Right([]api.Pair{pair(strings.Repeat("k", size), txt("a"))}), size <= 64; got != want {
			t.Errorf("Right of a key of %d bytes = %v", size, got)
		}
	}
}

func TestRightOfValues(t *testing.T) {
	for _, v := range rightValues() {
		if !Right([]api.Pair{pair("k", v)}) {
			t.Errorf("Right of %s = false", clip(v))
		}
	}
	for _, v := range wrongValues() {
		if Right([]api.Pair{pair("k", v)}) {
			t.Errorf("Right of %s = true", clip(v))
		}
	}
}

func TestRightOfLists(t *testing.T) {
	for _, l := range rightLists() {
		if !Right(l) {
			t.Errorf("Right of %s = false", clip(l))
		}
	}
	for _, p := range wrongPairs() {
		good := pair("k", num(1))
		for _, l := range [][]api.Pair{{p}, {p, good}, {good, p}, {good, p, good}, {p, p}, append(counted(keys()...), p), append([]api.Pair{p}, counted(keys()...)...)} {
			if Right(l) {
				t.Errorf("Right of %s = true", clip(l))
			}
		}
	}
	for _, l := range anyLists() {
		if got, want := Right(l), !slices.ContainsFunc(l, func(p api.Pair) bool { return !slowRight(p) }); got != want {
			t.Errorf("Right of %s = %v", clip(l), got)
		}
	}
}

// 11.1: Ordered

func TestOrderedOfTwo(t *testing.T) {
	for _, a := range append(keys(), longKeys()...) {
		for _, b := range append(keys(), longKeys()...) {
			if got, want := Ordered(counted(a, b)), !slowLess(b, a); got != want {
				t.Errorf("Ordered of %s, %s = %v", clip(a), clip(b), got)
			}
		}
	}
}

func TestOrderedOfKnownLists(t *testing.T) {
	for _, l := range [][]string{
		{}, {""}, {"b"}, {"a", "b"}, {"", "a"}, {"a", "a"}, {"", ""}, {"a", "aa"}, {"a", "a\x00"}, {"ab", "b"}, {"B", "a"}, {"10", "9"}, {"a", "a", "b", "b"}, {"\x7f", "\x80"}, {"\x00", "\x7f", "\x80", "\xff"},
	} {
		if !Ordered(counted(l...)) {
			t.Errorf("Ordered of %q = false", l)
		}
	}
	for _, l := range [][]string{
		{"b", "a"}, {"a", ""}, {"aa", "a"}, {"a\x00", "a"}, {"b", "ab"}, {"a", "B"}, {"9", "10"}, {"a", "b", "a"}, {"b", "b", "a"}, {"b", "a", "a"}, {"b", "c", "d", "a"}, {"b", "a", "c", "d"}, {"\x80", "\x7f"}, {"\xff", "\x00"},
	} {
		if Ordered(counted(l...)) {
			t.Errorf("Ordered of %q = true", l)
		}
	}
	// Values are of no account.
	if !Ordered([]api.Pair{pair("a", txt("z")), pair("a", num(1)), pair("a", num(-1)), pair("b", num(-2))}) {
		t.Errorf("Ordered asks for an order of values")
	}
}

func TestOrderedIsAsTheChapterSays(t *testing.T) {
	if Ordered(nil) != true {
		t.Errorf("Ordered of nil = false")
	}
	for _, l := range append(anyLists(), shortLists(6, "", "a", "a\x80", "b")...) {
		if got, want := Ordered(l), slowOrdered(l); got != want {
			t.Errorf("Ordered of %s = %v", clip(l), got)
		}
	}
	// One key out of its place, wherever it stands.
	var sorted []string
	for i := range 40 {
		sorted = append(sorted, fmt.Sprintf("%03d", i))
	}
	for from := range sorted {
		for to := range sorted {
			moved := slices.Insert(slices.Delete(slices.Clone(sorted), from, from+1), to, sorted[from])
			if Ordered(counted(moved...)) != (from == to) {
				t.Errorf("Ordered of %q = %v", moved, from != to)
			}
		}
	}
}

// 11.1: Sort

func TestTheExample(t *testing.T) {
	is(t, "Sort", Sort([]api.Pair{pair("b", num(1)), pair("a", num(2)), pair("b", num(0))}), []api.Pair{pair("a", num(2)), pair("b", num(1)), pair("b", num(0))})
}

func TestSortOfKnownLists(t *testing.T) {
	for _, c := range []struct{ l, want []api.Pair }{
		{nil, nil},
		{[]api.Pair{}, nil},
		{counted("b"), counted("b")},
		{counted("a", "b", "c"), counted("a", "b", "c")},
		{counted("c", "b", "a"), []api.Pair{pair("a", num(2)), pair("b", num(1)), pair("c", num(0))}},
		{counted("\xff", "\x80", "\x7f", "\x00", ""), []api.Pair{pair("", num(4)), pair("\x00", num(3)), pair("\x7f", num(2)), pair("\x80", num(1)), pair("\xff", num(0))}},
		{counted("ab", "a", "abc", "b", "aa"), []api.Pair{pair("a", num(1)), pair("aa", num(4)), pair("ab", num(0)), pair("abc", num(2)), pair("b", num(3))}},
		// Values of one key stay as they stood, whatever they are.
		{[]api.Pair{pair("k", txt("b")), pair("k", num(2)), pair("k", num(1)), pair("k", txt("a"))}, []api.Pair{pair("k", txt("b")), pair("k", num(2)), pair("k", num(1)), pair("k", txt("a"))}},
		// Pairs that aren't right are sorted as well.
		{[]api.Pair{pair(strings.Repeat("x", 65), num(1)), pair("a", num(farInt+1)), pair("a", api.Value{Kind: 9})}, []api.Pair{pair("a", num(farInt+1)), pair("a", api.Value{Kind: 9}), pair(strings.Repeat("x", 65), num(1))}},
	} {
		is(t, "Sort of "+clip(c.l), Sort(c.l), c.want)
	}
}

func TestSortIsAsTheChapterSays(t *testing.T) {
	for _, l := range append(anyLists(), shortLists(6, "", "a", "a\x80", "b")...) {
		is(t, "Sort of "+clip(l), Sort(l), slowSort(l))
	}
}

func TestSortOfOneKeyLeavesTheList(t *testing.T) {
	for _, size := range []int{2, 3, 12, 13, 20, 21, 40, 41, 100, 1000, 5000} {
		l := make([]api.Pair, size)
		for i := range l {
			l[i] = pair("k", num(size-i))
		}
		is(t, "Sort of one key", Sort(l), l)
	}
}

func TestSortOfLongLists(t *testing.T) {
	var ch chance
	for _, of := range []int{1, 2, 3, 10, 1000} {
		l := make([]api.Pair, 20000)
		for i := range l {
			l[i] = pair(strconv.Itoa(ch.below(of)), num(i))
		}
		sorted := Sort(l)
		if len(sorted) != len(l) {
			t.Fatalf("Sort of %d pairs has %d", len(l), len(sorted))
		}
		// Each value is a place: one that comes behind in the order, or one key's that stood behind.
		for i := 1; i < len(sorted); i++ {
			a, b := sorted[i-1], sorted[i]
			if slowLess(b.Key, a.Key) || a.Key == b.Key && a.Val.N >= b.Val.N {
				t.Fatalf("%s stands ahead of %s", clip(a), clip(b))
			}
		}
		for _, p := range sorted {
			if l[p.Val.N] != p {
				t.Fatalf("%s was not in the list", clip(p))
			}
		}
	}
}

// 11.1: Groups

func TestGroupsOfKnownLists(t *testing.T) {
	for _, c := range []struct {
		l    []api.Pair
		want []group
	}{
		{nil, nil},
		{[]api.Pair{}, nil},
		{counted("a"), []group{{"a", []api.Value{num(0)}}}},
		{counted(""), []group{{"", []api.Value{num(0)}}}},
		{counted("a", "a", "a"), []group{{"a", []api.Value{num(0), num(1), num(2)}}}},
		{counted("b", "a"), []group{{"a", []api.Value{num(1)}}, {"b", []api.Value{num(0)}}}},
		{counted("b", "a", "b", "", "a", "b"), []group{{"", []api.Value{num(3)}}, {"a", []api.Value{num(1), num(4)}}, {"b", []api.Value{num(0), num(2), num(5)}}}},
		{counted("a", "ab", "a"), []group{{"a", []api.Value{num(0), num(2)}}, {"ab", []api.Value{num(1)}}}},
		{[]api.Pair{pair("k", num(5)), pair("k", num(5)), pair("k", num(4))}, []group{{"k", []api.Value{num(5), num(5), num(4)}}}},
	} {
		areGroups(t, groupsOf(Groups(c.l)), c.want)
	}
}

func TestGroupsAreAsTheChapterSays(t *testing.T) {
	for _, l := range append(anyLists(), shortLists(5, "", "a", "a\x80", "b")...) {
		groups := Groups(l)
		if groups == nil {
			t.Fatalf("Groups of %s is nil", clip(l))
		}
		want := slowGroups(l)
		areGroups(t, groupsOf(groups), want)
		// And the second time as the first.
		areGroups(t, groupsOf(groups), want)
	}
}

func TestGroupsStoppedAnywhere(t *testing.T) {
	var ch chance
	for _, l := range [][]api.Pair{nil, counted("a"), counted("a", "a"), counted("c", "a", "b", "a"), ch.list(200, keys()), ch.list(50, []string{"a", "b"})} {
		groups, want := Groups(l), slowGroups(l)
		for stop := 1; stop <= len(want); stop++ {
			var met []group
			groups(func(key string, values []api.Value) bool {
				met = append(met, group{key, slices.Clone(values)})
				return len(met) < stop
			})
			// Behind a no nothing more is handed out, and it begins from the beginning each time.
			areGroups(t, met, want[:stop])
			met = nil
			for key, values := range groups {
				met = append(met, group{key, slices.Clone(values)})
				if len(met) == stop {
					break
				}
			}
			areGroups(t, met, want[:stop])
		}
	}
}

func TestGroupsWithinGroups(t *testing.T) {
	l := counted("b", "a", "c", "b")
	groups, want := Groups(l), slowGroups(l)
	var outer []group
	for key, values := range groups {
		outer = append(outer, group{key, slices.Clone(values)})
		areGroups(t, groupsOf(groups), want)
	}
	areGroups(t, outer, want)
}

func TestGroupsDoNotFollowTheList(t *testing.T) {
	l := counted("b", "a", "c", "b")
	want := slowGroups(l)
	groups := Groups(l)
	l[0], l[3] = pair("z", num(77)), pair("y", num(78))
	areGroups(t, groupsOf(groups), want)
	var met []group
	for key, values := range groups {
		met = append(met, group{key, slices.Clone(values)})
		clear(l)
	}
	areGroups(t, met, want)
}

func TestGroupsDoNotFollowWhatTheyHandedOut(t *testing.T) {
	l := counted("b", "a", "c", "b", "a", "a", "")
	want := slowGroups(l)
	groups := Groups(l)
	for range 3 {
		var met []group
		var held [][]api.Value
		for key, values := range groups {
			met = append(met, group{key, slices.Clone(values)})
			spare := values[:cap(values)]
			for i := range spare {
				spare[i] = num(-len(met))
			}
			held = append(held, spare)
		}
		areGroups(t, met, want)
		// No two groups' values lie in one another either.
		for i, values := range held {
			for _, v := range values {
				if v != num(-i-1) {
					t.Errorf("the group %d holds %s behind the others", i, clip(v))
				}
			}
		}
	}
	is(t, "the list", l, counted("b", "a", "c", "b", "a", "a", ""))
}

// 11.1: Join

func TestJoinOfKnownLists(t *testing.T) {
	a, b := []api.Pair{pair("b", num(1)), pair("a", num(2))}, []api.Pair{pair("a", num(3)), pair("c", num(4)), pair("b", num(5))}
	is(t, "Join of nothing", Join(), nil)
	is(t, "Join of no lists", Join([][]api.Pair{}...), nil)
	is(t, "Join of nil", Join(nil), nil)
	is(t, "Join of lists of none", Join(nil, []api.Pair{}, nil), nil)
	is(t, "Join of one", Join(a), []api.Pair{pair("a", num(2)), pair("b", num(1))})
	is(t, "Join of two", Join(a, b), []api.Pair{pair("a", num(2)), pair("a", num(3)), pair("b", num(1)), pair("b", num(5)), pair("c", num(4))})
	is(t, "Join the other way round", Join(b, a), []api.Pair{pair("a", num(3)), pair("a", num(2)), pair("b", num(5)), pair("b", num(1)), pair("c", num(4))})
	is(t, "Join with lists of none", Join(nil, a, []api.Pair{}, b, nil), Join(a, b))
	is(t, "Join of one list twice", Join(a, a), []api.Pair{pair("a", num(2)), pair("a", num(2)), pair("b", num(1)), pair("b", num(1))})
}

func TestJoinIsAsTheChapterSays(t *testing.T) {
	short := shortLists(3, "", "a", "b")
	for _, a := range short {
		for _, b := range short {
			b = slices.Clone(b)
			for i := range b {
				b[i].Val.N += 10
			}
			is(t, "Join of "+clip(a)+" and "+clip(b), Join(a, b), slowSort(slices.Concat(a, b)))
		}
	}
	lists := anyLists()
	var ch chance
	for range 300 {
		chosen := make([][]api.Pair, ch.below(6))
		for i := range chosen {
			chosen[i] = lists[ch.below(len(lists))]
		}
		is(t, "Join of "+clip(chosen), Join(chosen...), slowSort(slices.Concat(chosen...)))
	}
}

func TestJoinOfOneKeyGoesByTheLists(t *testing.T) {
	var lists [][]api.Pair
	var want []api.Pair
	for i := range 30 {
		var l []api.Pair
		for n := range 30 - i {
			l = append(l, pair("k", num(1000-100*i-n)))
		}
		lists = append(lists, l)
		want = append(want, l...)
	}
	is(t, "Join of one key", Join(lists...), want)
}

// 11.2: Bytes

func TestBytesOfKnownLists(t *testing.T) {
	long := strings.Repeat("k", mostKey)
	for _, c := range []struct {
		l    []api.Pair
		want string
	}{
		{nil, "\x00"},
		{[]api.Pair{}, "\x00"},
		{[]api.Pair{pair("", num(0))}, "\x01\x00\x00\x00\x00"},
		{[]api.Pair{pair("a", num(300))}, "\x01\x01a\x00\x00\xac\x02"},
		{[]api.Pair{pair("a", num(-1))}, "\x01\x01a\x00\x01\xff\xff\xff\x3f"},
		{[]api.Pair{pair("a", num(farInt))}, "\x01\x01a\x00\x80\x80\x80\x40\x00"},
		{[]api.Pair{pair("ab", txt("")), pair("", txt("xyz"))}, "\x02\x02ab\x01\x00\x00\x01\x03xyz"},
		{[]api.Pair{pair(long, spot(3, -4))}, "\x01\x40" + long + "\x02\x06\x07"},
		// As they stand, not sorted.
		{[]api.Pair{pair("b", num(1)), pair("a", num(2)), pair("b", num(0))}, "\x03\x01b\x00\x00\x01\x01a\x00\x00\x02\x01b\x00\x00\x00"},
	} {
		if got := Bytes(c.l); got != c.want {
			t.Errorf("Bytes of %s = %s, want %s", clip(c.l), clip(got), clip(c.want))
		}
	}
}

func TestBytesAreAsTheChapterSays(t *testing.T) {
	for _, l := range append(rightLists(), shortLists(4, "", "a", "b")...) {
		if got, want := Bytes(l), slowBytes(l); got != want {
			t.Errorf("Bytes of %s = %s, want %s", clip(l), clip(got), clip(want))
		}
	}
	for _, count := range []int{126, 127, 128, 129, 16383, 16384, 16385} {
		l := slices.Repeat(counted("k"), count)
		if got, want := Bytes(l), slowBytes(l); got != want {
			t.Errorf("Bytes of %d pairs = %s, want %s", count, clip(got), clip(want))
		}
	}
}

func TestBytesOfListsThatAreNotRight(t *testing.T) {
	for _, p := range wrongPairs() {
		good := pair("k", num(1))
		for _, l := range [][]api.Pair{{p}, {p, good}, {good, p}, {good, p, good}, append(counted(keys()...), p)} {
			if got := Bytes(l); got != "" {
				t.Errorf("Bytes of %s = %s", clip(l), clip(got))
			}
		}
	}
}

// 11.2: Read

func TestReadOfKnownBytes(t *testing.T) {
	long := strings.Repeat("k", mostKey)
	for s, want := range map[string][]api.Pair{
		"\x00":                                   nil,
		"\x01\x00\x00\x00\x00":                   {pair("", num(0))},
		"\x01\x01a\x00\x01\xff\xff\xff\x3f":      {pair("a", num(-1))},
		"\x01\x00\x00\x80\x80\x80\x40\x00":       {pair("", num(farInt))},
		"\x01\x00\x00\xff\xff\xff\x3f\x00":       {pair("", num(-farInt))},
		"\x02\x02ab\x01\x00\x00\x01\x03xyz":      {pair("ab", txt("")), pair("", txt("xyz"))},
		"\x01\x40" + long + "\x02\x06\x07":       {pair(long, spot(3, -4))},
		"\x02\x01b\x00\x00\x01\x01a\x00\x00\x02": {pair("b", num(1)), pair("a", num(2))},
	} {
		reads(t, s, want)
	}
}

// faults is bytes that stand where a pair must, the error that they come to, and what they are.
func faults() []struct {
	s string
	e api.Errno
} {
	long := strings.Repeat("k", mostKey+1)
	return []struct {
		s string
		e api.Errno
	}{
		// A key's length that is no number, or too large, whether the bytes are there or not.
		{"\x80\x00", api.ErrForm},
		{"\xff\xff\xff\xff\xff\xff\xff\xff", api.ErrForm},
		{"\x41" + long, api.ErrLarge},
		{"\x41", api.ErrLarge},
		{"\x80\x01" + strings.Repeat("k", 128), api.ErrLarge},
		{"\xff\xff\xff\xff\xff\xff\xff\x0f", api.ErrLarge},
		// A value's kind that is no number, or none.
		{"\x00\x80\x00", api.ErrForm},
		{"\x01a\x03", api.ErrForm},
		{"\x01a\x7f\x00\x00", api.ErrForm},
		{"\x01a\xff\xff\xff\xff\xff\xff\xff\x0f", api.ErrForm},
		// A number's quotient and rest.
		{"\x00\x00\x80\x00\x00", api.ErrForm},
		{"\x00\x00\x00\x80\x00", api.ErrForm},
		{"\x00\x00\x00\x80\x80\x80\x40", api.ErrForm},
		{"\x00\x00\x80\x80\x80\x40\x01", api.ErrForm},
		{"\x00\x00\x82\x80\x80\x40\x00", api.ErrForm},
		{"\x00\x00\x81\x80\x80\x40\x00", api.ErrForm},
		{"\x00\x00\xff\xff\xff\xff\xff\xff\xff\x0f\x00", api.ErrForm},
		// A text's length.
		{"\x00\x01\x80\x00", api.ErrForm},
		{"\x00\x01\x81\x20" + strings.Repeat("x", 4097), api.ErrLarge},
		{"\x00\x01\x81\x20", api.ErrLarge},
		// A point's parts.
		{"\x00\x02\x80\x00\x00", api.ErrForm},
		{"\x00\x02\x00\x80\x00", api.ErrForm},
		{"\x00\x02\x82\x80\x80\x10\x00", api.ErrForm},
		{"\x00\x02\x00\x81\x80\x80\x10", api.ErrForm},
	}
}

// ends is bytes of a pair that end too soon.
func ends() []string {
	return []string{
		"", "\x80", "\x01", "\x02a", "\x40" + strings.Repeat("k", 63), "\x00", "\x01a", "\x00\x80", "\x00\x00", "\x00\x00\x80", "\x00\x00\x00", "\x00\x00\x00\x80", "\x00\x01", "\x00\x01\x80", "\x00\x01\x01", "\x00\x01\x80\x20" + strings.Repeat("x", 4095),
		"\x00\x02", "\x00\x02\x00", "\x00\x02\x00\xff", "\x00\x02\x82\x80\x80\x10", "\x00\x00\x82\x80\x80\x40",
	}
}

// fine is the bytes of a right pair.
const fine = "\x01a\x00\x00\x05"

func TestNoNumberOfPairs(t *testing.T) {
	for s, e := range map[string]api.Errno{
		"": api.ErrShort, "\x80": api.ErrShort, "\xff\xff": api.ErrShort, "\x80\x00": api.ErrForm, "\x81\x00" + fine: api.ErrForm,
		"\x80\x80\x80\x80\x80\x80\x80\x80": api.ErrForm, "\xff\xff\xff\xff\xff\xff\xff\x10": api.ErrForm, "\xff\xff\xff\xff\xff\xff\xff\xff\x01": api.ErrForm,
	} {
		refuses(t, s, e)
	}
}

func TestMorePairsThanBytes(t *testing.T) {
	// As many as there are bytes may be, as far as their number tells; one more may not, whatever stands behind.
	refuses(t, "\x01", api.ErrShort)
	refuses(t, "\x02", api.ErrLarge)
	refuses(t, "\x02\x00", api.ErrShort)
	refuses(t, "\x03\x00", api.ErrLarge)
	refuses(t, "\x02\x41", api.ErrLarge)
	refuses(t, "\x06"+fine, api.ErrShort)
	refuses(t, "\x07"+fine, api.ErrLarge)
	refuses(t, "\x03\x00\x03", api.ErrForm)
	refuses(t, "\x04\x00\x03", api.ErrLarge)
	for size := 2; size < 400; size++ {
		for _, count := range []int{size - 1, size, size + 1, size + 2, 1<<53 - 1} {
			number := string(binary.AppendUvarint(nil, uint64(count)))
			// No kind of a value is 3: behind the number it is ErrForm at once.
			s := number + strings.Repeat("\x00\x03", size)[:max(size-len(number), 0)]
			want := api.ErrForm
			if count > len(s) {
				want = api.ErrLarge
			} else if len(s)-len(number) < 2 {
				want = api.ErrShort
			}
			refuses(t, s, want)
		}
	}
	for _, behind := range []string{"", "\x00", "\x80", "\xff\xff", fine, "\x41", "\x00\x03"} {
		refuses(t, "\xff\xff\xff\xff\xff\xff\xff\x0f"+behind, api.ErrLarge)
		refuses(t, "\x80\x80\x80\x80\x80\x80\x80\x01"+behind, api.ErrLarge)
		refuses(t, "\x80\x80\x80\x80\x08"+behind, api.ErrLarge)
	}
}

func TestAnotherNumberOfPairs(t *testing.T) {
	for _, l := range rightLists() {
		laid := slowBytes(l)
		behind := laid[len(binary.AppendUvarint(nil, uint64(len(l)))):]
		numbered := func(n int) string { return string(binary.AppendUvarint(nil, uint64(n))) + behind }
		refuses(t, numbered(len(l)+1), api.ErrShort)
		if len(l) > 0 {
			refuses(t, numbered(len(l)-1), api.ErrForm)
			refuses(t, numbered(0), api.ErrForm)
		}
		for _, n := range []int{len(behind), len(behind) + 1, len(behind) + 2, len(behind) + 3, len(behind) + 4, len(behind) + 5, 1<<53 - 1} {
			readsAsTheChapterSays(t, numbered(n))
		}
		refuses(t, numbered(1<<53-1), api.ErrLarge)
	}
}

func TestAFaultBesideRightPairs(t *testing.T) {
	for _, f := range faults() {
		// Behind it may stand whatever there is.
		for _, behind := range []string{"", fine, "\x00", "\x80", "abc", "\xff\xff\xff\xff\xff\xff\xff\xff\xff"} {
			refuses(t, "\x01"+f.s+behind, f.e)
			refuses(t, "\x02"+f.s+behind, f.e)
			refuses(t, "\x02"+fine+f.s+behind, f.e)
			refuses(t, "\x03"+fine+f.s+behind, f.e)
		}
	}
	for _, s := range ends() {
		refuses(t, "\x01"+s, api.ErrShort)
		refuses(t, "\x02"+fine+s, api.ErrShort)
		refuses(t, "\x03"+fine+fine+s, api.ErrShort)
	}
}

func TestTheFirstOfTwoFaults(t *testing.T) {
	for _, f := range faults() {
		for _, g := range faults() {
			refuses(t, "\x02"+f.s+g.s, f.e)
			refuses(t, "\x02"+g.s+f.s, g.e)
			refuses(t, "\x04"+fine+f.s+fine+g.s, f.e)
			refuses(t, "\x04"+fine+g.s+fine+f.s, g.e)
		}
		for _, s := range ends() {
			refuses(t, "\x02"+f.s+s, f.e)
		}
		// The number of pairs comes ahead of all; bytes that are left come behind all.
		refuses(t, "\xff\x7f"+f.s, api.ErrLarge)
		refuses(t, "\x80\x00"+f.s, api.ErrForm)
		refuses(t, "\x01"+f.s+"more", f.e)
	}
}

func TestBytesCutShort(t *testing.T) {
	for _, l := range rightLists() {
		laid := slowBytes(l)
		if len(laid) > 6000 {
			continue
		}
		number := len(binary.AppendUvarint(nil, uint64(len(l))))
		for cut := range len(laid) {
			want := api.ErrShort
			if cut >= number && cut < len(l) {
				want = api.ErrLarge
			}
			refuses(t, laid[:cut], want)
		}
	}
}

func TestBytesThatAreLeft(t *testing.T) {
	for _, l := range rightLists() {
		laid := slowBytes(l)
		for b := range 256 {
			refuses(t, laid+string([]byte{byte(b)}), api.ErrForm)
		}
		refuses(t, laid+laid, api.ErrForm)
		refuses(t, laid+fine, api.ErrForm)
	}
}

func TestEachByteChanged(t *testing.T) {
	var ch chance
	for range 60 {
		laid := []byte(slowBytes(ch.list(ch.below(6), []string{"", "a", "ab", "\x80"})))
		for i, was := range laid {
			for b := range 256 {
				laid[i] = byte(b)
				readsAsTheChapterSays(t, string(laid))
			}
			laid[i] = was
		}
	}
}

func TestAllShortTextsAreReadAsTheChapterSays(t *testing.T) {
	texts := []string{""}
	for from, size := 0, 0; size <= 7; size++ {
		to := len(texts)
		for _, s := range texts[from:to] {
			readsAsTheChapterSays(t, s)
			if size == 7 {
				continue
			}
			for _, b := range []string{"\x00", "\x01", "\x02", "\x03", "\x41", "\x80"} {
				texts = append(texts, s+b)
			}
		}
		from = to
	}
	for a := range 256 {
		for b := range 256 {
			readsAsTheChapterSays(t, string([]byte{byte(a), byte(b)}))
			readsAsTheChapterSays(t, string([]byte{1, 0, byte(a), byte(b)}))
			readsAsTheChapterSays(t, string([]byte{1, 0, 0, byte(a), byte(b)}))
			readsAsTheChapterSays(t, string([]byte{1, 0, 2, byte(a), byte(b)}))
		}
	}
}

func TestTextsOfChanceAreReadAsTheChapterSays(t *testing.T) {
	var ch chance
	for range 100000 {
		b := []byte(ch.text(ch.below(24)))
		for i := range b {
			if ch.below(4) > 0 {
				b[i] %= 4
			}
		}
		readsAsTheChapterSays(t, string(b))
	}
}

func TestKeysAndTextsAroundTheirEdges(t *testing.T) {
	for size := range 200 {
		s := "\x01" + string(binary.AppendUvarint(nil, uint64(size))) + strings.Repeat("k", size) + "\x01\x00"
		if size <= 64 {
			reads(t, s, []api.Pair{pair(strings.Repeat("k", size), txt(""))})
		} else {
			refuses(t, s, api.ErrLarge)
		}
	}
	for _, size := range []int{0, 1, 127, 128, 4095, 4096, 4097, 4098, 1 << 16} {
		s := "\x01\x00\x01" + string(binary.AppendUvarint(nil, uint64(size))) + strings.Repeat("x", size)
		if size <= 4096 {
			reads(t, s, []api.Pair{pair("", txt(strings.Repeat("x", size)))})
		} else {
			refuses(t, s, api.ErrLarge)
		}
	}
}

// 11.3

func TestWhatIsLaidIsReadAsItWas(t *testing.T) {
	for _, l := range append(rightLists(), shortLists(4, "", "a", "b")...) {
		reads(t, Bytes(l), l)
		reads(t, Bytes(Sort(l)), slowSort(l))
	}
	for _, key := range keys() {
		for _, v := range rightValues() {
			l := []api.Pair{pair(key, v), pair("", v), pair(key, num(0))}
			reads(t, Bytes(l), l)
		}
	}
	long := slices.Repeat(counted("k", "a"), 10000)
	reads(t, Bytes(long), long)
}

func TestWhatIsSortedHasTheSamePairs(t *testing.T) {
	for _, l := range anyLists() {
		sorted := Sort(l)
		times := map[api.Pair]int{}
		for _, p := range l {
			times[p]++
		}
		for _, p := range sorted {
			times[p]--
		}
		for p, n := range times {
			if n != 0 {
				t.Errorf("%s is in the list %d times more than in what is sorted", clip(p), n)
			}
		}
		if !Ordered(sorted) {
			t.Errorf("%s isn't in order", clip(sorted))
		}
		is(t, "Sort of what is sorted", Sort(sorted), sorted)
	}
}

func TestSortingListsAndJoiningThemIsSortingAll(t *testing.T) {
	for _, l := range append(anyLists(), shortLists(5, "", "a", "a\x80", "b")...) {
		want := slowSort(l)
		for _, size := range []int{1, 2, 3, 7, 64} {
			var sorted, joined [][]api.Pair
			for part := range slices.Chunk(l, size) {
				sorted = append(sorted, Sort(part))
				joined = append(joined, part)
			}
			is(t, "Join of sorted lists", Join(sorted...), want)
			is(t, "Join of lists", Join(joined...), want)
		}
	}
}

// Rules 4 and 6: memory, and what calls hang on

// shares tells whether two texts have a byte of memory in common.
func shares(a, b string) bool {
	if a == "" || b == "" {
		return false
	}
	from, other := uintptr(unsafe.Pointer(unsafe.StringData(a))), uintptr(unsafe.Pointer(unsafe.StringData(b)))
	return from < other+uintptr(len(b)) && other < from+uintptr(len(a))
}

// textsOf is all texts of a list.
func textsOf(l []api.Pair) []string {
	var texts []string
	for _, p := range l {
		texts = append(texts, p.Key, p.Val.S)
	}
	return texts
}

// flat is all that groups hand out, as a list; a key stands in it once, as it is handed out once.
func flat(groups iter.Seq2[string, []api.Value]) []api.Pair {
	var l []api.Pair
	for key, values := range groups {
		for _, v := range values {
			l = append(l, pair(key, v))
			key = ""
		}
	}
	return l
}

func TestWhatIsHandedOutIsNew(t *testing.T) {
	l := []api.Pair{pair("some key", txt("some text")), pair("another key", txt("another text")), pair("some key", txt("a third text")), pair("a key", spot(1, 2))}
	laid := slowBytes(l)
	groups := Groups(l)
	for name, answer := range map[string]func() []api.Pair{
		"Sort":                  func() []api.Pair { return Sort(l) },
		"Join":                  func() []api.Pair { return Join(l) },
		"Join of two":           func() []api.Pair { return Join(l, l) },
		"Groups":                func() []api.Pair { return flat(Groups(l)) },
		"Groups, gone through":  func() []api.Pair { return flat(groups) },
		"Read":                  func() []api.Pair { l, _ := Read(laid); return l },
		"Bytes":                 func() []api.Pair { return []api.Pair{pair(Bytes(l), num(0))} },
		"Sort of what is alike": func() []api.Pair { return Sort([]api.Pair{l[0], l[0], l[0]}) },
	} {
		a, b := answer(), answer()
		if !slices.Equal(a, b) || len(a) == 0 {
			t.Fatalf("%s = %s, %s", name, clip(a), clip(b))
		}
		for i, x := range textsOf(a) {
			for j, y := range textsOf(a) {
				if i != j && shares(x, y) {
					t.Errorf("%s: the texts %d and %d of the answer share memory", name, i, j)
				}
			}
			for _, y := range append(textsOf(slices.Concat(l, b)), laid) {
				if shares(x, y) {
					t.Errorf("%s: the text %d of the answer shares memory with what was handed in, or with a later answer", name, i)
				}
			}
		}
		// Spare room is the answer's own too.
		spare := a[:cap(a)]
		for i := range spare {
			spare[i] = pair("other", num(99))
		}
		is(t, name, answer(), b)
		is(t, name, b, answer())
	}
	is(t, "the list", l, []api.Pair{pair("some key", txt("some text")), pair("another key", txt("another text")), pair("some key", txt("a third text")), pair("a key", spot(1, 2))})
}

func TestWhatIsHandedInIsNotChanged(t *testing.T) {
	for _, l := range append(anyLists(), shortLists(5, "", "a", "b")...) {
		spare := []api.Pair{pair("", num(77)), pair("z", num(78))}
		was := slices.Concat(l, spare)
		room := slices.Clone(was)
		given := room[:len(l)]
		Right(given)
		Ordered(given)
		Sort(given)
		Bytes(given)
		lists := [][]api.Pair{given, nil, spare, given}
		Join(lists[:3]...)
		Join(given, given)
		Join(given)
		for _, values := range Groups(given) {
			clear(values)
			_ = append(values, num(1))
		}
		is(t, "what was handed in", room, was)
		is(t, "its spare room", spare, []api.Pair{pair("", num(77)), pair("z", num(78))})
		if len(lists[0]) != len(l) || lists[1] != nil || len(lists[2]) != 2 || len(lists[3]) != len(l) {
			t.Errorf("the lists were changed")
		}
	}
}

func TestAnAnswerDoesNotFollowItsArguments(t *testing.T) {
	key, text := []byte("some key"), []byte("some text")
	l := []api.Pair{pair("z", num(1)), pair(unsafe.String(&key[0], len(key)), txt(unsafe.String(&text[0], len(text))))}
	want := []api.Pair{pair("some key", txt("some text")), pair("z", num(1))}
	laid := []byte(slowBytes(want))
	sorted, joined, groups := Sort(l), Join(l), Groups(l)
	read, _ := Read(unsafe.String(&laid[0], len(laid)))
	copy(key, "XXXXXXXX")
	copy(text, "XXXXXXXXX")
	clear(l)
	clear(laid)
	is(t, "Sort", sorted, want)
	is(t, "Join", joined, want)
	is(t, "Read", read, want)
	areGroups(t, groupsOf(groups), slowGroups(want))
}

func TestCallsAtOneTime(t *testing.T) {
	var ch chance
	l := ch.list(500, keys())
	laid, sorted, groups := slowBytes(l), slowSort(l), Groups(l)
	done := make(chan bool)
	for range 8 {
		go func() {
			read, e := Read(laid)
			size := 0
			for _, values := range groups {
				size += len(values)
			}
			done <- e == api.OK && slices.Equal(read, l) && slices.Equal(Sort(l), sorted) && Bytes(l) == laid && size == len(l)
		}()
	}
	for range 8 {
		if !<-done {
			t.Errorf("calls at one time hang on each other")
		}
	}
}
