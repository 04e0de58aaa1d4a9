package expr

import (
	"fmt"
	"math"
	"regexp"
	"slices"
	"strconv"
	"strings"
	"testing"
	"unsafe"

	"stook/api"
	"stook/value"
)

const (
	// mostNodes is how many nodes a right list may have, mostNest within how many others a node may lie, mostText how long a text may be.
	mostNodes = 400
	mostNest  = 24
	mostText  = 4096
)

// chapter is the kinds from 2 on as the chapter lists them.
const chapter = "2 add 2, 3 sub 2, 4 mul 2, 5 div 2, 6 mod 2, 7 neg 1, 8 less 2, 9 same 2, 10 not 1, 11 if 3, 12 max 2, 13 min 2, 14 cat 2, 15 len 1, 16 cut 3, 17 word 2, 18 words 1, 19 num 1, 20 text 1, 21 at 2, 22 re 1, 23 im 1, 24 norm 1, 25 conj 1, 26 emit 2, 27 then 2, 28 each 2, 29 let 2"

// words is the names by their numbers.
var words = []string{"key", "val", "acc", "i", "it"}

// told is a kind as the chapter tells of it.
type told struct {
	op    int
	word  string
	parts int
}

// tells is the kinds from 2 on.
func tells() []told {
	var l []told
	for _, s := range strings.Split(chapter, ", ") {
		var k told
		if n, err := fmt.Sscanf(s, "%d %s %d", &k.op, &k.word, &k.parts); n != 3 || err != nil {
			panic(s)
		}
		l = append(l, k)
	}
	return l
}

// tellsByOp and tellsByWord find a kind as the chapter tells of it.
var tellsByOp, tellsByWord = map[int]told{}, map[string]told{}

func init() {
	for _, k := range tells() {
		tellsByOp[k.op], tellsByWord[k.word] = k, k
	}
}

func num(n int) Node            { return Node{V: api.Value{N: n}} }
func txt(s string) Node         { return Node{V: api.Value{Kind: 1, S: s}} }
func spot(x, y int) Node        { return Node{V: api.Value{Kind: 2, P: api.Spot{X: x, Y: y}}} }
func name(n int) Node           { return Node{Op: 1, V: api.Value{N: n}} }
func is(op int) Node            { return Node{Op: op} }
func nodes(l ...Node) []Node    { return l }
func joined(l ...[]Node) []Node { return slices.Concat(l...) }
func byteText(b int) string     { return string([]byte{byte(b)}) }

// chance is a row of numbers that looks like chance and is the same each time.
type chance uint32

func (c *chance) below(n int) int {
	*c = *c*1664525 + 1013904223
	return int(*c>>16) % n
}

// text is a text of chance, of so many of these, one behind the other.
func (c *chance) text(size int, of []string) string {
	var s strings.Builder
	for range size {
		s.WriteString(of[c.below(len(of))])
	}
	return s.String()
}

// leaf is a value or a name of chance.
func (c *chance) leaf() Node {
	switch c.below(5) {
	case 0:
		return num(c.below(1<<16) - 1<<15)
	case 1:
		return txt(c.text(c.below(5), []string{"a", "\"", "\\", " ", ")", "(", "\x00", "\xff", "ä"}))
	case 2:
		return spot(c.below(9)-4, c.below(9)-4)
	}
	return name(c.below(5))
}

// expression is a right list of chance, whose nodes lie within at most so many others of it.
func (c *chance) expression(deep int) []Node {
	if deep == 0 || c.below(4) == 0 {
		return nodes(c.leaf())
	}
	k := tellsByOp[2+c.below(28)]
	l := nodes(is(k.op))
	for range k.parts {
		l = append(l, c.expression(deep-1)...)
	}
	return l
}

// tree is a right list of so many nodes, hardly any of them deep.
func tree(size int) []Node {
	switch size {
	case 1:
		return nodes(name(3))
	case 2:
		return nodes(is(7), num(5))
	}
	left := (size - 1) / 2
	return joined(nodes(is(2)), tree(left), tree(size-1-left))
}

// nested is a list within so many neg.
func nested(deep int, l ...Node) []Node { return joined(slices.Repeat(nodes(is(7)), deep), l) }

// full is a list that takes just so many bytes, when it is written; at most some 8000.
func full(size int) []Node {
	// (cat "" "") has 11 bytes.
	x := size - 11
	return nodes(is(14), txt(strings.Repeat("x", x/2)), txt(strings.Repeat("y", x-x/2)))
}

// rights is right lists: of each kind, around all edges, and some of chance.
func rights() [][]Node {
	l := [][]Node{
		nodes(num(0)), nodes(num(1 << 53)), nodes(num(-1 << 53)), nodes(txt("")), nodes(txt("a b\n")), nodes(txt(strings.Repeat("\x00", 4096))), nodes(spot(1<<24, -1<<24)),
		nodes(name(0)), nodes(name(1)), nodes(name(2)), nodes(name(3)), nodes(name(4)),
		nodes(is(2), name(1), num(1)), nodes(is(2), num(1), num(-1)), nodes(is(16), txt("a"), num(0), num(1)),
		nested(mostNest, num(1)), nested(mostNest-1, is(2), num(1), num(1)), joined(nodes(is(2)), nested(mostNest-1, num(1)), nested(mostNest-1, num(1))),
		joined(nodes(is(11)), nested(mostNest-1, name(0)), nodes(num(1)), nested(mostNest-1, name(1))),
		full(20), full(mostText - 1), full(mostText), full(mostText + 1), nodes(is(14), txt(strings.Repeat("\xff", 4096)), txt(strings.Repeat("\xff", 4096))),
	}
	for _, k := range tells() {
		l = append(l, append(nodes(is(k.op)), slices.Repeat(nodes(name(1)), k.parts)...))
		l = append(l, append(nodes(is(k.op)), slices.Repeat(nodes(is(7), num(-7)), k.parts)...))
	}
	for size := 1; size <= mostNodes; size++ {
		l = append(l, tree(size))
	}
	var ch chance
	for range 2000 {
		if x := ch.expression(1 + ch.below(7)); len(x) <= mostNodes {
			l = append(l, x)
		}
	}
	return l
}

// wrongNodes is nodes that are right in no list.
func wrongNodes() []Node {
	var l []Node
	for _, op := range []int{-1, -2, -30, 30, 31, 32, 255, 256, 258, 1 << 32, 1<<32 + 2, math.MinInt, math.MaxInt} {
		l = append(l, is(op), Node{Op: op, V: api.Value{N: 1}}, Node{Op: op, V: api.Value{Kind: 1, S: "a"}})
	}
	for _, n := range []int{-1, -2, 5, 6, 255, 256, 1 << 32, math.MinInt, math.MaxInt} {
		l = append(l, name(n))
	}
	for n := range 5 {
		l = append(l,
			Node{Op: 1, V: api.Value{Kind: 1, N: n}}, Node{Op: 1, V: api.Value{Kind: 2, N: n}}, Node{Op: 1, V: api.Value{Kind: -1, N: n}}, Node{Op: 1, V: api.Value{Kind: 3, N: n}},
			Node{Op: 1, V: api.Value{N: n, S: "a"}}, Node{Op: 1, V: api.Value{N: n, P: api.Spot{X: 1}}}, Node{Op: 1, V: api.Value{N: n, P: api.Spot{Y: 1}}},
			Node{Op: 1, V: api.Value{Kind: 1, S: words[n]}}, Node{Op: 1, V: api.Value{Kind: 2, P: api.Spot{X: n}}},
		)
	}
	for _, v := range wrongValues() {
		l = append(l, Node{V: v}, Node{Op: 1, V: v}, Node{Op: 2, V: v})
	}
	return l
}

// wrongValues is values that aren't right.
func wrongValues() []api.Value {
	return []api.Value{
		{N: 1<<53 + 1}, {N: -1<<53 - 1}, {N: math.MinInt}, {S: "a"}, {P: api.Spot{X: 1}}, {N: 1, S: "a"}, {N: 1, P: api.Spot{Y: 1}},
		{Kind: 1, N: 1}, {Kind: 1, P: api.Spot{X: 1}}, {Kind: 1, S: strings.Repeat("a", 4097)},
		{Kind: 2, N: 1}, {Kind: 2, S: "a"}, {Kind: 2, P: api.Spot{X: 1<<24 + 1}}, {Kind: 2, P: api.Spot{Y: -1<<24 - 1}},
		{Kind: 3}, {Kind: -1}, {Kind: 3, N: 1}, {Kind: 256}, {Kind: math.MaxInt},
	}
}

// wrongs is lists that aren't right.
func wrongs() [][]Node {
	l := [][]Node{
		nil, {}, nodes(num(1), num(2)), nodes(name(0), name(0)), nodes(num(1), is(7), num(2)), nodes(is(7), num(1), num(2)), nodes(is(7), num(1), is(7), num(2)),
		nodes(is(2)), nodes(is(7)), nodes(is(11)), nodes(is(2), num(1)), nodes(is(16), num(1), num(2)), nodes(is(2), is(7), num(1)), nodes(is(2), num(1), is(7)), nodes(is(2), is(2), num(1), num(1)),
		nested(mostNest+1, num(1)), nested(mostNest+2, num(1)), nested(mostNest, is(2), num(1), num(1)), nested(100, num(1)), nested(399, num(1)), nested(100000, num(1)),
		joined(nodes(is(2)), nested(mostNest, num(1)), nodes(num(1))), joined(nodes(is(2), num(1)), nested(mostNest, num(1))),
		joined(nodes(is(11)), nested(mostNest, num(1)), nodes(num(1), num(1))), joined(nodes(is(11), num(1)), nested(mostNest, num(1)), nodes(num(1))), joined(nodes(is(11), num(1), num(1)), nested(mostNest, num(1))),
		tree(mostNodes + 1), tree(mostNodes + 2), tree(2 * mostNodes), tree(1 << 16), append(tree(mostNodes), num(1)), append(tree(mostNodes-1), num(1)), tree(mostNodes)[:mostNodes-1], tree(mostNodes + 1)[:mostNodes],
		slices.Repeat(nodes(num(1)), mostNodes), slices.Repeat(nodes(is(2)), mostNodes), slices.Repeat(nodes(is(7)), 1<<16),
	}
	for _, n := range wrongNodes() {
		l = append(l, nodes(n), nodes(n, num(1)), nodes(n, num(1), num(1)), nodes(is(7), n), nodes(is(2), n, num(1)), nodes(is(2), num(1), n), nodes(is(11), num(1), num(1), is(7), n))
	}
	for _, k := range tells() {
		for _, v := range []api.Value{{N: 1}, {N: -1}, {Kind: 1}, {Kind: 1, S: "a"}, {S: "a"}, {Kind: 2}, {P: api.Spot{X: 1}}, {P: api.Spot{Y: 1}}, {Kind: -1}, {Kind: 3}} {
			l = append(l, append(nodes(Node{Op: k.op, V: v}), slices.Repeat(nodes(num(1)), k.parts)...))
			l = append(l, joined(nodes(is(11), num(1), num(1)), append(nodes(Node{Op: k.op, V: v}), slices.Repeat(nodes(num(1)), k.parts)...)))
		}
		for parts := range 5 {
			if parts != k.parts {
				l = append(l, append(nodes(is(k.op)), slices.Repeat(nodes(num(1)), parts)...))
			}
		}
	}
	return l
}

// slowParts is how many parts a node has; of kinds that there aren't none.
func slowParts(op int) int { return tellsByOp[op].parts }

// slowEnd is the place behind the expression that begins at a place: there as many expressions are done as were begun.
func slowEnd(l []Node, at int) (int, bool) {
	begun, done := 1, 0
	for i := at; i < len(l); i++ {
		begun += slowParts(l[i].Op)
		done++
		if begun == done {
			return i + 1, true
		}
	}
	return 0, false
}

// slowRight is Right as the chapter says it; a node lies within those ahead of it whose expressions end behind it.
func slowRight(l []Node) bool {
	if behind, ok := slowEnd(l, 0); !ok || behind != len(l) || len(l) > mostNodes {
		return false
	}
	for i, n := range l {
		within := 0
		for j := range i {
			if behind, _ := slowEnd(l, j); behind > i {
				within++
			}
		}
		if within > mostNest {
			return false
		}
		_, known := tellsByOp[n.Op]
		isName := n.Op == 1 && slices.Contains([]api.Value{{N: 0}, {N: 1}, {N: 2}, {N: 3}, {N: 4}}, n.V)
		isValue := n.Op == 0 && value.Right(n.V)
		if !isName && !isValue && !(known && n.V == api.Value{}) {
			return false
		}
	}
	return true
}

// slowWrite is a right list as it is written: each node, and behind it as many ) as expressions with parts end there.
func slowWrite(l []Node) string {
	ends := make([]int, len(l)+1)
	for i, n := range l {
		if n.Op > 1 {
			behind, _ := slowEnd(l, i)
			ends[behind]++
		}
	}
	var s []string
	for i, n := range l {
		word := "(" + tellsByOp[n.Op].word
		switch n.Op {
		case 0:
			word = value.Write(n.V)
		case 1:
			word = words[n.V.N]
		}
		s = append(s, word+strings.Repeat(")", ends[i+1]))
	}
	return strings.Join(s, " ")
}

// fault is an error at a place, by which slowParse ends.
type fault struct {
	at int
	e  api.Errno
}

var (
	passed  = regexp.MustCompile(`^ *`)
	letters = regexp.MustCompile(`^[a-z]*`)
)

// slow reads a text part by part, each by a call of its own.
type slow struct {
	s  string
	at int
	l  []Node
}

// slowParse is what Parse answers as the chapter says it.
func slowParse(s string) (l []Node, at int, e api.Errno) {
	if len(s) > mostText {
		return nil, 0, api.ErrLarge
	}
	defer func() {
		if x, ok := recover().(fault); ok {
			l, at, e = nil, x.at, x.e
		}
	}()
	r := &slow{s: s}
	r.expression(0)
	r.pass()
	if r.at < len(s) {
		panic(fault{r.at, api.ErrWord})
	}
	return r.l, 0, api.OK
}

func (r *slow) pass() { r.at += len(passed.FindString(r.s[r.at:])) }

// atEnd ends it, if nothing is left.
func (r *slow) atEnd() {
	r.pass()
	if r.at == len(r.s) {
		panic(fault{r.at, api.ErrShort})
	}
}

func (r *slow) expression(within int) {
	r.atEnd()
	if len(r.l) == mostNodes {
		panic(fault{r.at, api.ErrMany})
	}
	if within > mostNest {
		panic(fault{r.at, api.ErrNest})
	}
	b := r.s[r.at]
	switch {
	case b == '"' || b == '-' || b >= '0' && b <= '9':
		v, size, e := value.Parse(r.s[r.at:])
		if e != api.OK {
			panic(fault{r.at, e})
		}
		r.l = append(r.l, Node{V: v})
		r.at += size
	case b >= 'a' && b <= 'z':
		word := letters.FindString(r.s[r.at:])
		n := slices.Index(words, word)
		if n < 0 {
			panic(fault{r.at, api.ErrWord})
		}
		r.l = append(r.l, name(n))
		r.at += len(word)
	case b == '(':
		r.at++
		word := letters.FindString(r.s[r.at:])
		k, ok := tellsByWord[word]
		if !ok {
			panic(fault{r.at, api.ErrWord})
		}
		r.at += len(word)
		r.l = append(r.l, is(k.op))
		for range k.parts {
			r.expression(within + 1)
		}
		r.atEnd()
		if r.s[r.at] != ')' {
			panic(fault{r.at, api.ErrArity})
		}
		r.at++
	case b == ')' && within > 0:
		panic(fault{r.at, api.ErrArity})
	default:
		panic(fault{r.at, api.ErrWord})
	}
}

// clip is a text as a fault tells it.
func clip(s string) string {
	if len(s) > 80 {
		return strconv.Quote(s[:40]) + ".." + strconv.Quote(s[len(s)-40:])
	}
	return strconv.Quote(s)
}

// clipList is a list as a fault tells it.
func clipList(l []Node) string { return clip(fmt.Sprint(len(l), l)) }

// parses asks whether Parse reads this list.
func parses(t *testing.T, s string, want ...Node) {
	t.Helper()
	l, at, e := Parse(s)
	if !slices.Equal(l, want) || at != 0 || e != api.OK {
		t.Errorf("Parse of %s = %s, %d, %d, want %s", clip(s), clipList(l), at, e, clipList(want))
	}
}

// refuses asks whether Parse tells this fault.
func refuses(t *testing.T, s string, at int, e api.Errno) {
	t.Helper()
	if l, gotAt, got := Parse(s); len(l) != 0 || gotAt != at || got != e {
		t.Errorf("Parse of %s = %s, %d, %d, want nothing, %d, %d", clip(s), clipList(l), gotAt, got, at, e)
	}
}

// parsesAsTheChapterSays holds Parse against slowParse.
func parsesAsTheChapterSays(t *testing.T, s string) {
	t.Helper()
	want, wantAt, wantError := slowParse(s)
	l, at, e := Parse(s)
	if !slices.Equal(l, want) || at != wantAt || e != wantError {
		t.Errorf("Parse of %s = %s, %d, %d, want %s, %d, %d", clip(s), clipList(l), at, e, clipList(want), wantAt, wantError)
	}
}

// 8.1: Parts

func TestPartsOfEachKind(t *testing.T) {
	if len(tells()) != 28 {
		t.Fatalf("%d kinds", len(tells()))
	}
	for _, k := range tells() {
		if word, parts, ok := Parts(k.op); word != k.word || parts != k.parts || !ok {
			t.Errorf("Parts of %d = %s, %d, %t, want %s, %d", k.op, word, parts, ok, k.word, k.parts)
		}
	}
}

func TestPartsOfOtherNumbers(t *testing.T) {
	l := []int{0, 1, 255, 256, 257, 258, 1 << 16, 1<<16 + 2, 1 << 32, 1<<32 + 2, -1 << 32, 1 << 53, math.MaxInt, math.MaxInt - 1, math.MinInt, math.MinInt + 1, math.MinInt + 2}
	for n := range 300 {
		l = append(l, -1-n, 30+n)
	}
	for _, op := range l {
		if word, parts, ok := Parts(op); word != "" || parts != 0 || ok {
			t.Errorf("Parts of %d = %s, %d, %t", op, word, parts, ok)
		}
	}
}

// 8.1: Right

func TestRightOfRightLists(t *testing.T) {
	for _, l := range rights() {
		if !slowRight(l) {
			t.Fatalf("by the chapter it isn't right: %s", clipList(l))
		}
		if !Right(l) {
			t.Errorf("Right of %s is false", clipList(l))
		}
	}
}

func TestRightOfWrongLists(t *testing.T) {
	for _, l := range wrongs() {
		if Right(l) {
			t.Errorf("Right of %s is true", clipList(l))
		}
		if len(l) <= 2*mostNodes && slowRight(l) {
			t.Errorf("by the chapter it is right: %s", clipList(l))
		}
	}
}

func TestRightIsAsTheChapterSaysOfAllShortLists(t *testing.T) {
	some := nodes(num(7), name(4), is(7), is(2), is(11), name(5), is(30))
	short := [][]Node{{}}
	for range 6 {
		var longer [][]Node
		for _, l := range short {
			if got, want := Right(l), slowRight(l); got != want {
				t.Errorf("Right of %v = %t", l, got)
			}
			for _, n := range some {
				longer = append(longer, append(slices.Clip(l), n))
			}
		}
		short = longer
	}
}

func TestRightAtTheBounds(t *testing.T) {
	for size := mostNodes - 3; size <= mostNodes+3; size++ {
		if got, want := Right(tree(size)), size <= mostNodes; got != want {
			t.Errorf("Right of %d nodes = %t", size, got)
		}
	}
	for deep := mostNest - 3; deep <= mostNest+3; deep++ {
		want := deep <= mostNest
		for _, k := range tells() {
			for part := range k.parts {
				l := append(nodes(is(k.op)), slices.Repeat(nodes(name(0)), part)...)
				l = append(l, nested(deep-1, num(1))...)
				l = append(l, slices.Repeat(nodes(name(0)), k.parts-1-part)...)
				if got := Right(l); got != want {
					t.Errorf("Right of a node within %d others, in the part %d of %s = %t", deep, part, k.word, got)
				}
			}
		}
	}
}

// 8.1: End

func TestEndOfAKnownList(t *testing.T) {
	// (if (less val 0:1) (emit key "a") it)
	l := nodes(is(11), is(8), name(1), spot(0, 1), is(26), name(0), txt("a"), name(4))
	for at, want := range []int{8, 4, 3, 4, 7, 6, 7, 8} {
		if got, ok := End(l, at); got != want || !ok {
			t.Errorf("End of %d = %d, %t, want %d", at, got, ok, want)
		}
	}
}

func TestEndIsAsTheChapterSays(t *testing.T) {
	for _, l := range rights() {
		for at := range l {
			want, _ := slowEnd(l, at)
			if got, ok := End(l, at); got != want || !ok {
				t.Errorf("End of %s at %d = %d, %t, want %d", clipList(l), at, got, ok, want)
			}
		}
	}
}

func TestEndBesideTheList(t *testing.T) {
	for _, l := range [][]Node{nodes(num(1)), nodes(is(2), num(1), num(2)), tree(mostNodes)} {
		for _, at := range []int{len(l), len(l) + 1, len(l) + 2, 1 << 32, math.MaxInt, -1, -2, -len(l), -1 << 32, math.MinInt} {
			if got, ok := End(l, at); got != 0 || ok {
				t.Errorf("End of %d nodes at %d = %d, %t", len(l), at, got, ok)
			}
		}
	}
}

func TestEndOfWrongLists(t *testing.T) {
	for _, l := range wrongs() {
		for _, at := range []int{-1, 0, 1, 2, len(l) - 1, len(l), len(l) + 1} {
			if got, ok := End(l, at); got != 0 || ok {
				t.Errorf("End of %s at %d = %d, %t", clipList(l), at, got, ok)
			}
		}
	}
}

// 8.1: Names

func TestNamesOfKnownLists(t *testing.T) {
	type five = [5]bool
	for _, x := range []struct {
		l    []Node
		want five
	}{
		{nodes(num(0)), five{}},
		{nodes(num(3)), five{}},
		{nodes(txt("key")), five{}},
		{nodes(is(2), num(0), num(4)), five{}},
		{nodes(name(0)), five{true, false, false, false, false}},
		{nodes(name(1)), five{false, true, false, false, false}},
		{nodes(name(2)), five{false, false, true, false, false}},
		{nodes(name(3)), five{false, false, false, true, false}},
		{nodes(name(4)), five{false, false, false, false, true}},
		{nodes(is(2), name(4), name(4)), five{false, false, false, false, true}},
		{nodes(is(11), name(0), num(1), is(7), name(3)), five{true, false, false, true, false}},
		{nodes(is(11), is(2), name(4), name(3), is(2), name(2), name(1), name(0)), five{true, true, true, true, true}},
	} {
		if got := Names(x.l); got != x.want {
			t.Errorf("Names of %v = %v", x.l, got)
		}
	}
}

func TestNamesAreAsTheChapterSays(t *testing.T) {
	for _, l := range rights() {
		var want [5]bool
		for n := range want {
			want[n] = slices.Contains(l, name(n))
		}
		if got := Names(l); got != want {
			t.Errorf("Names of %s = %v", clipList(l), got)
		}
	}
}

func TestNamesOfWrongLists(t *testing.T) {
	l := append(wrongs(), nodes(name(0), name(1)), nodes(is(2), name(1)), nodes(is(2), name(1), name(5)), nodes(name(1), name(-1)), nested(mostNest+1, name(2)))
	for _, l := range l {
		if got := Names(l); got != [5]bool{} {
			t.Errorf("Names of %s = %v", clipList(l), got)
		}
	}
}

// 8.1: Write

func TestWriteOfKnownLists(t *testing.T) {
	for want, l := range map[string][]Node{
		"(add val 1)": nodes(is(2), name(1), num(1)),
		"0":           nodes(num(0)),
		"-17":         nodes(num(-17)),
		`"a\0a \22"`:  nodes(txt("a\n \"")),
		`""`:          nodes(txt("")),
		"3:-4":        nodes(spot(3, -4)),
		"key":         nodes(name(0)),
		"val":         nodes(name(1)),
		"acc":         nodes(name(2)),
		"i":           nodes(name(3)),
		"it":          nodes(name(4)),
		"(neg -1)":    nodes(is(7), num(-1)),
		`(if (less val 0:1) (emit key "a b") it)`:         nodes(is(11), is(8), name(1), spot(0, 1), is(26), name(0), txt("a b"), name(4)),
		"(cut (text (neg 1)) (add i i) (len (text acc)))": nodes(is(16), is(20), is(7), num(1), is(2), name(3), name(3), is(15), is(20), name(2)),
		"(neg (neg (neg key)))":                           nodes(is(7), is(7), is(7), name(0)),
	} {
		if got, e := Write(l); got != want || e != api.OK {
			t.Errorf("Write of %v = %s, %d, want %s", l, got, e, want)
		}
		parses(t, want, l...)
	}
}

func TestWriteIsAsTheChapterSays(t *testing.T) {
	for _, l := range rights() {
		want, wantError := slowWrite(l), api.OK
		if len(want) > mostText {
			want, wantError = "", api.ErrLarge
		}
		if got, e := Write(l); got != want || e != wantError {
			t.Errorf("Write of %s = %s, %d, want %s, %d", clipList(l), clip(got), e, clip(want), wantError)
		}
	}
}

func TestWriteOfLongTexts(t *testing.T) {
	for size := mostText - 3; size <= mostText+3; size++ {
		l := full(size)
		if len(slowWrite(l)) != size {
			t.Fatalf("%d bytes, not %d", len(slowWrite(l)), size)
		}
		got, e := Write(l)
		if size <= mostText && (got != slowWrite(l) || e != api.OK) || size > mostText && (got != "" || e != api.ErrLarge) {
			t.Errorf("Write of a list whose text has %d bytes = %s, %d", size, clip(got), e)
		}
	}
	// A text of 4094 bytes takes 4096 with its quotes; one more is too many, though its value is right.
	for size, want := range map[int]api.Errno{4094: api.OK, 4095: api.ErrLarge, 4096: api.ErrLarge} {
		if got, e := Write(nodes(txt(strings.Repeat("x", size)))); e != want || (e != api.OK && got != "") {
			t.Errorf("Write of a text of %d bytes = %s, %d, want %d", size, clip(got), e, want)
		}
	}
}

func TestWriteOfWrongLists(t *testing.T) {
	l := append(wrongs(), joined(full(mostText+1), nodes(num(1))), full(mostText + 1)[:2])
	for _, l := range l {
		if got, e := Write(l); got != "" || e != api.ErrArg {
			t.Errorf("Write of %s = %s, %d", clipList(l), clip(got), e)
		}
	}
}

// 8.2: Parse

func TestParseOfTheExample(t *testing.T) {
	parses(t, "(add val 1)", is(2), name(1), num(1))
}

func TestParseOfEachKind(t *testing.T) {
	for _, k := range tells() {
		for _, part := range []struct {
			s string
			l []Node
		}{{"1", nodes(num(1))}, {"key", nodes(name(0))}, {`"a)"`, nodes(txt("a)"))}, {"(neg 0:0)", nodes(is(7), spot(0, 0))}} {
			begin := "(" + k.word
			want := nodes(is(k.op))
			for n := range k.parts {
				// Too few parts.
				refuses(t, begin, len(begin), api.ErrShort)
				refuses(t, begin+" ", len(begin)+1, api.ErrShort)
				refuses(t, begin+")", len(begin), api.ErrArity)
				refuses(t, begin+"  )", len(begin)+2, api.ErrArity)
				refuses(t, "(neg "+begin+"))", len(begin)+5, api.ErrArity)
				refuses(t, begin+" foo)", len(begin)+1, api.ErrWord)
				begin += " " + part.s
				want = append(want, part.l...)
				if n+1 < k.parts {
					parsesAsTheChapterSays(t, begin)
				}
			}
			refuses(t, begin, len(begin), api.ErrShort)
			refuses(t, begin+" ", len(begin)+1, api.ErrShort)
			parses(t, begin+")", want...)
			parses(t, begin+" )", want...)
			parses(t, " "+begin+" ) ", want...)
			// Too many.
			refuses(t, begin+" 1)", len(begin)+1, api.ErrArity)
			refuses(t, begin+" key)", len(begin)+1, api.ErrArity)
			refuses(t, begin+" (", len(begin)+1, api.ErrArity)
			refuses(t, begin+" foo", len(begin)+1, api.ErrArity)
			refuses(t, begin+" (foo", len(begin)+1, api.ErrArity)
			refuses(t, begin+" 01", len(begin)+1, api.ErrArity)
			refuses(t, begin+"))", len(begin)+1, api.ErrWord)
			refuses(t, begin+")  )", len(begin)+3, api.ErrWord)
			refuses(t, begin+") 1", len(begin)+2, api.ErrWord)
			for b := range 256 {
				if b != ' ' && b != ')' {
					refuses(t, begin+" "+byteText(b), len(begin)+1, api.ErrArity)
				}
			}
		}
	}
}

func TestParseOfNothing(t *testing.T) {
	refuses(t, "", 0, api.ErrShort)
	for n := range 20 {
		refuses(t, strings.Repeat(" ", n), n, api.ErrShort)
	}
	refuses(t, strings.Repeat(" ", mostText), mostText, api.ErrShort)
	refuses(t, strings.Repeat(" ", mostText+1), 0, api.ErrLarge)
}

func TestParsePassesBlanksOver(t *testing.T) {
	want := nodes(is(2), is(7), name(1), txt(" a "))
	for _, s := range []string{
		`(add (neg val) " a ")`, ` (add (neg val) " a ")`, `   (add (neg val) " a ")`, `(add (neg val) " a ")   `, `(add   (neg val) " a ")`, `(add (neg    val) " a ")`,
		`(add (neg val  ) " a ")`, `(add (neg val)    " a ")`, `(add (neg val) " a "  )`, `  (add  (neg  val  )  " a "  )  `,
		// No blank need stand where a word ends without one.
		`(add(neg val)" a ")`, `(add(neg val) " a ")`, `(add (neg val)" a ")`,
	} {
		parses(t, s, want...)
	}
	parses(t, "(add 1-2)", is(2), num(1), num(-2))
	parses(t, "(add-1-2)", is(2), num(-1), num(-2))
	parses(t, "(add 1:2-3)", is(2), spot(1, 2), num(-3))
	parses(t, "(add1 2)", is(2), num(1), num(2))
	parses(t, "(add 1key)", is(2), num(1), name(0))
	parses(t, "(add key1)", is(2), name(0), num(1))
	parses(t, `(cat"a""b")`, is(14), txt("a"), txt("b"))
	parses(t, `(cat key"b")`, is(14), name(0), txt("b"))
	// A blank may not stand within a word, nor ahead of a kind's.
	refuses(t, "( add 1 2)", 1, api.ErrWord)
	refuses(t, "(ad d 1 2)", 1, api.ErrWord)
	refuses(t, "k ey", 0, api.ErrWord)
	refuses(t, "i t", 2, api.ErrWord)
	refuses(t, "(neg - 1)", 5, api.ErrForm)
}

func TestParseOfOtherWhiteBytes(t *testing.T) {
	for _, b := range []string{"\t", "\n", "\r", "\v", "\f", "\x00", "\u00a0", "\u0085", "\u2003", "\u3000", "\xa0", "\x85"} {
		refuses(t, b, 0, api.ErrWord)
		refuses(t, b+"1", 0, api.ErrWord)
		refuses(t, " "+b+"1", 1, api.ErrWord)
		refuses(t, "1"+b, 1, api.ErrWord)
		refuses(t, "key"+b, 3, api.ErrWord)
		refuses(t, "1 "+b, 2, api.ErrWord)
		refuses(t, "(neg"+b+"1)", 4, api.ErrWord)
		refuses(t, "(neg "+b+"1)", 5, api.ErrWord)
		refuses(t, "("+b+"neg 1)", 1, api.ErrWord)
		refuses(t, "(neg 1"+b+")", 6, api.ErrArity)
		refuses(t, "(neg 1)"+b, 7, api.ErrWord)
		refuses(t, "(add 1"+b+"2)", 6, api.ErrWord)
		refuses(t, "(add"+b+"1 2)", 4, api.ErrWord)
	}
}

func TestParseOfLongTexts(t *testing.T) {
	for size := mostText - 2; size <= mostText; size++ {
		parses(t, strings.Repeat(" ", size-3)+"key", name(0))
		parses(t, "key"+strings.Repeat(" ", size-3), name(0))
		parses(t, slowWrite(full(size)), full(size)...)
		parses(t, `"`+strings.Repeat("x", size-2)+`"`, txt(strings.Repeat("x", size-2)))
		refuses(t, strings.Repeat("a", size), 0, api.ErrWord)
		refuses(t, "key"+strings.Repeat(" ", size-4)+"1", size-1, api.ErrWord)
		refuses(t, strings.Repeat("9", size), 0, api.ErrRange)
		refuses(t, `"`+strings.Repeat("x", size-1), 0, api.ErrShort)
	}
	for _, size := range []int{mostText + 1, mostText + 2, 2 * mostText, 1 << 20} {
		for _, s := range []string{"key" + strings.Repeat(" ", size-3), "(neg 1)" + strings.Repeat(" ", size-7), strings.Repeat("a", size), strings.Repeat("(", size), strings.Repeat(")", size), strings.Repeat("\xff", size), strings.Repeat("(neg ", size)[:size], `"` + strings.Repeat("x", size-1)} {
			refuses(t, s, 0, api.ErrLarge)
		}
	}
	refuses(t, slowWrite(full(mostText+1)), 0, api.ErrLarge)
	refuses(t, slowWrite(full(mostText+2)), 0, api.ErrLarge)
}

func TestParseOfKindsThatThereAreNot(t *testing.T) {
	refuses(t, "(", 1, api.ErrWord)
	refuses(t, "()", 1, api.ErrWord)
	refuses(t, "( )", 1, api.ErrWord)
	refuses(t, "((neg 1))", 1, api.ErrWord)
	refuses(t, "(1)", 1, api.ErrWord)
	refuses(t, `("a")`, 1, api.ErrWord)
	refuses(t, "  (", 3, api.ErrWord)
	refuses(t, "(neg (", 6, api.ErrWord)
	refuses(t, "(neg ()", 6, api.ErrWord)
	refuses(t, "(add 1 (foo 2))", 8, api.ErrWord)
	for _, word := range append(slices.Clone(words), "foo", "a", "z", "adds", "value", "name", "x") {
		refuses(t, "("+word, 1, api.ErrWord)
		refuses(t, "("+word+")", 1, api.ErrWord)
		refuses(t, "("+word+" 1)", 1, api.ErrWord)
		refuses(t, "(neg ("+word+" 1", 6, api.ErrWord)
	}
	for _, k := range tells() {
		// The beginning of a word is another kind's word at times.
		for size := range k.word {
			if _, ok := tellsByWord[k.word[:size]]; !ok {
				refuses(t, "("+k.word[:size], 1, api.ErrWord)
				refuses(t, "("+k.word[:size]+" 1 1 1)", 1, api.ErrWord)
			}
		}
		for b := 'a'; b <= 'z'; b++ {
			if _, ok := tellsByWord[k.word+string(b)]; !ok {
				refuses(t, "("+k.word+string(b)+" 1 1 1)", 1, api.ErrWord)
				refuses(t, "("+k.word+string(b), 1, api.ErrWord)
			}
		}
		refuses(t, "("+strings.ToUpper(k.word)+" 1 1 1)", 1, api.ErrWord)
		refuses(t, "("+strings.ToUpper(k.word[:1])+k.word[1:]+" 1 1 1)", 1, api.ErrWord)
		// What is no a to z ends a word, so that this one is there, and its first part is not.
		for _, behind := range []string{"A", "Z", "`", "{", "_", ".", "\x80", "\xff", "ä", "\t", "'"} {
			refuses(t, "("+k.word+behind+" 1 1 1)", len(k.word)+1, api.ErrWord)
		}
		// A kind is no name.
		refuses(t, k.word, 0, api.ErrWord)
		refuses(t, "(neg "+k.word+")", 5, api.ErrWord)
	}
}

func TestParseOfNames(t *testing.T) {
	for n, word := range words {
		parses(t, word, name(n))
		parses(t, " "+word+" ", name(n))
		parses(t, "(neg "+word+")", is(7), name(n))
		refuses(t, word+" "+word, len(word)+1, api.ErrWord)
		// A name that goes on.
		for b := 'a'; b <= 'z'; b++ {
			if !slices.Contains(words, word+string(b)) {
				refuses(t, word+string(b), 0, api.ErrWord)
				refuses(t, "(neg "+word+string(b)+")", 5, api.ErrWord)
			}
		}
		for size := 1; size < len(word); size++ {
			if !slices.Contains(words, word[:size]) {
				refuses(t, word[:size], 0, api.ErrWord)
			}
		}
		// Digits, capitals and others end it.
		for _, behind := range []string{"0", "1", "9", "A", "Z", "-", "-1", ":", "\"", "\"a\"", "(", ")", "_", "`", "{", "\x80", "\xff", "é", ".", "(neg 1)"} {
			refuses(t, word+behind, len(word), api.ErrWord)
			if behind != ")" {
				refuses(t, "(neg "+word+behind+")", 5+len(word), api.ErrArity)
			}
		}
		refuses(t, strings.ToUpper(word), 0, api.ErrWord)
		refuses(t, "(neg "+strings.ToUpper(word[:1])+word[1:]+")", 5, api.ErrWord)
		if capital := word[:len(word)-1] + "X"; !slices.Contains(words, word[:len(word)-1]) {
			refuses(t, capital, 0, api.ErrWord)
		}
	}
	refuses(t, "foo", 0, api.ErrWord)
	refuses(t, "iT", 1, api.ErrWord)
	refuses(t, "keyval", 0, api.ErrWord)
	refuses(t, "(add key foo)", 9, api.ErrWord)
}

func TestParseOfValues(t *testing.T) {
	for s, want := range map[string]Node{
		"0": num(0), "7": num(7), "-1": num(-1), "9007199254740992": num(1 << 53), "-9007199254740992": num(-1 << 53),
		"0:0": spot(0, 0), "3:-4": spot(3, -4), "-16777216:16777216": spot(-1<<24, 1<<24),
		`""`: txt(""), `"a"`: txt("a"), `" "`: txt(" "), `"("`: txt("("), `")"`: txt(")"), `"\00\22\5c\ff"`: txt("\x00\"\\\xff"), `"(add 1 2)"`: txt("(add 1 2)"),
	} {
		parses(t, s, want)
		parses(t, "  "+s+"  ", want)
		parses(t, "(neg "+s+")", is(7), want)
		parses(t, "(neg"+s+")", is(7), want)
		parses(t, "(if "+s+" "+s+"  "+s+" )", is(11), want, want, want)
		refuses(t, s+")", len(s), api.ErrWord)
		refuses(t, s+" "+s, len(s)+1, api.ErrWord)
		refuses(t, "(neg "+s+" "+s+")", len(s)+6, api.ErrArity)
	}
}

func TestParseOfWrongValues(t *testing.T) {
	behinds := []string{"", " ", ")", " )", "))", " 1)", "a", "\""}
	for _, s := range []string{
		"-", "--1", "-0", "-01", "-a", "01", "00", "007", "1:", "1:-", "1:-0", "1:01", "1::", "1:a", "-0:1", "01:1",
		"9007199254740993", "-9007199254740993", "99999999999999999999", "16777217:0", "0:-16777217", "16777217:", "16777217:a",
		`"`, `"a`, `"\`, `"\0`, `"\00`, `"\g`, `"\41`, `"\0A`, "\"\t", "\"\x7f", "\"\x80", "\"\n\"", `"\\"`, `"a\`,
	} {
		for _, behind := range behinds {
			_, _, e := value.Parse(s + behind)
			if e == api.OK {
				// What stands behind makes a value of it, as a quote does of a text that lacks one.
				parsesAsTheChapterSays(t, "(neg "+s+behind)
				continue
			}
			refuses(t, s+behind, 0, e)
			refuses(t, "  "+s+behind, 2, e)
			refuses(t, "(neg "+s+behind, 5, e)
			refuses(t, "(add key   "+s+behind, 11, e)
			refuses(t, "(if (not 1) key"+s+behind, 15, e)
		}
	}
	refuses(t, "(neg -)", 5, api.ErrForm)
	refuses(t, "(neg - )", 5, api.ErrForm)
	refuses(t, "(neg -", 5, api.ErrShort)
	refuses(t, "(neg 1:)", 5, api.ErrForm)
	refuses(t, "(neg 1: )", 5, api.ErrForm)
	refuses(t, "(neg 1:", 5, api.ErrShort)
	refuses(t, "(neg 01)", 5, api.ErrForm)
	refuses(t, "(neg \"a)", 5, api.ErrShort)
	refuses(t, "(neg 9007199254740993)", 5, api.ErrRange)
	refuses(t, "(neg 9007199254740993", 5, api.ErrRange)
	refuses(t, "(neg 16777217:1 1)", 5, api.ErrRange)
}

func TestParseOfASpareBracket(t *testing.T) {
	refuses(t, ")", 0, api.ErrWord)
	refuses(t, "  )", 2, api.ErrWord)
	refuses(t, "))", 0, api.ErrWord)
	refuses(t, "1)", 1, api.ErrWord)
	refuses(t, "1 )", 2, api.ErrWord)
	refuses(t, "(neg )", 5, api.ErrArity)
	refuses(t, "(neg)", 4, api.ErrArity)
	refuses(t, "(add (neg ) 1)", 10, api.ErrArity)
	refuses(t, "(add (neg 1 )) 1)", 13, api.ErrArity)
	refuses(t, "(if 1 )", 6, api.ErrArity)
	refuses(t, "(if 1 2)", 7, api.ErrArity)
	refuses(t, "(neg 1))", 7, api.ErrWord)
}

func TestParseOfAnEnd(t *testing.T) {
	// Of each beginning of a text that is read none but the whole is.
	for _, l := range [][]Node{nodes(is(11), is(8), name(1), spot(0, 1), is(26), name(0), txt("a b"), name(4)), nodes(is(16), is(20), is(7), num(1), is(2), name(3), name(3), is(15), is(20), name(2)), nested(mostNest, name(4)), tree(31)} {
		s := slowWrite(l)
		parses(t, s, l...)
		for size := range s {
			parsesAsTheChapterSays(t, s[:size])
			parsesAsTheChapterSays(t, s[:size]+"  ")
			if _, _, e := Parse(s[:size]); e == api.OK {
				t.Errorf("Parse of %s reads something", clip(s[:size]))
			}
		}
	}
	refuses(t, "(add", 4, api.ErrShort)
	refuses(t, "(add   ", 7, api.ErrShort)
	refuses(t, "(add 1", 6, api.ErrShort)
	refuses(t, "(add 1  ", 8, api.ErrShort)
	refuses(t, "(add 1 2", 8, api.ErrShort)
	refuses(t, "(add 1 2 ", 9, api.ErrShort)
	refuses(t, "(add (neg 1", 11, api.ErrShort)
	refuses(t, "(add (neg 1)", 12, api.ErrShort)
	refuses(t, "(add 1 (neg 1)", 14, api.ErrShort)
}

func TestParseOfWhatIsLeft(t *testing.T) {
	for _, s := range []string{"1", "key", `"a"`, "0:0", "(neg 1)", "(add 1 2)"} {
		for _, left := range []string{"1", "key", "foo", "(", ")", "\"", "(neg 1)", "-", "01", "\t", "\xff", ":", "A"} {
			refuses(t, s+" "+left, len(s)+1, api.ErrWord)
			refuses(t, "  "+s+"   "+left+"  ", len(s)+5, api.ErrWord)
		}
	}
}

func TestParseOfBytesThatBeginNothing(t *testing.T) {
	for b := range 256 {
		if strings.IndexByte(" (\"-0123456789abcdefghijklmnopqrstuvwxyz", byte(b)) >= 0 {
			continue
		}
		for _, behind := range []string{"", "1", "key", " 1)", "\x80\x80"} {
			refuses(t, byteText(b)+behind, 0, api.ErrWord)
			refuses(t, "  "+byteText(b)+behind, 2, api.ErrWord)
			e := api.ErrWord
			if b == ')' {
				e = api.ErrArity
			}
			refuses(t, "(neg "+byteText(b)+behind, 5, e)
			refuses(t, "(add 1 "+byteText(b)+behind, 7, e)
		}
	}
}

func TestParseOfBytesOf128AndMore(t *testing.T) {
	for _, s := range []string{"\x80", "\xbf", "\xc3", "\xff", "ä", "€", "\xed\xa0\x80", "\xf0\x9f\x98\x80", "\xef\xbd\x8b"} {
		refuses(t, s, 0, api.ErrWord)
		refuses(t, s+"key", 0, api.ErrWord)
		refuses(t, "key"+s, 3, api.ErrWord)
		refuses(t, "ke"+s, 0, api.ErrWord)
		refuses(t, "(neg"+s+" 1)", 4, api.ErrWord)
		refuses(t, "("+s, 1, api.ErrWord)
		refuses(t, "("+s+"neg 1)", 1, api.ErrWord)
		refuses(t, "(ne"+s+"g 1)", 1, api.ErrWord)
		refuses(t, "(neg "+s+")", 5, api.ErrWord)
		refuses(t, "(neg key"+s+")", 8, api.ErrArity)
		refuses(t, "(neg 1)"+s, 7, api.ErrWord)
		refuses(t, `(neg "`+s+`")`, 5, api.ErrForm)
	}
}

func TestParseOfManyNodes(t *testing.T) {
	for size := mostNodes - 3; size <= mostNodes; size++ {
		s := slowWrite(tree(size))
		parses(t, s, tree(size)...)
		refuses(t, s+" 1", len(s)+1, api.ErrWord)
	}
	for size := mostNodes + 1; size <= mostNodes+5; size++ {
		s := slowWrite(tree(size))
		at := placeOf(s, mostNodes)
		refuses(t, s, at, api.ErrMany)
		refuses(t, s[:at], at, api.ErrShort)
		refuses(t, s[:at]+"   ", at+3, api.ErrShort)
		// Whatever stands where the node behind the last one must.
		for b := range 256 {
			if b != ' ' {
				refuses(t, s[:at]+byteText(b), at, api.ErrMany)
				refuses(t, s[:at]+"  "+byteText(b)+"1", at+2, api.ErrMany)
			}
		}
		for _, behind := range []string{"foo)", "01", "(foo 1)", "-", "\"", ")", "))", "(neg", "16777217:1"} {
			refuses(t, s[:at]+behind, at, api.ErrMany)
		}
		// What is wrong ahead of it comes first.
		last := placeOf(s, mostNodes-1)
		refuses(t, s[:last]+"%"+s[last:], last, api.ErrWord)
		refuses(t, s[:last]+")"+s[last:], last, api.ErrArity)
		refuses(t, s[:last]+"01"+s[at-1:], last, api.ErrForm)
	}
	// Where no node must stand none is too many.
	s := slowWrite(joined(nodes(is(2), num(1)), nested(3, tree(mostNodes-5)...)))
	if l, _, e := Parse(s); len(l) != mostNodes || e != api.OK {
		t.Fatalf("Parse of %s = %d nodes, %d", clip(s), len(l), e)
	}
	for n := 1; n <= 4; n++ {
		refuses(t, s[:len(s)-n], len(s)-n, api.ErrShort)
		refuses(t, s[:len(s)-n]+" 1", len(s)-n+1, api.ErrArity)
		refuses(t, s[:len(s)-n]+" %", len(s)-n+1, api.ErrArity)
	}
	refuses(t, s+"%", len(s), api.ErrWord)
	for size := range 2 * mostNodes {
		parsesAsTheChapterSays(t, strings.Repeat("(neg ", size/20)+strings.Repeat("(add 1 ", size))
		parsesAsTheChapterSays(t, strings.Repeat("(if i(neg 1)", size))
	}
}

// placeOf is the place in a written list at which the node of that number begins.
func placeOf(s string, number int) int {
	begins := regexp.MustCompile(`[^ ()][^ ()]*|\([a-z]+`).FindAllStringIndex(s, -1)
	return begins[number][0]
}

func TestParseOfDeepNodes(t *testing.T) {
	for deep := mostNest - 3; deep <= mostNest; deep++ {
		for _, leaf := range []Node{num(1), name(0), txt("a"), spot(1, -1)} {
			parses(t, slowWrite(nested(deep, leaf)), nested(deep, leaf)...)
		}
	}
	for deep := mostNest + 1; deep <= mostNest+40; deep++ {
		at := 5 * (mostNest + 1)
		for _, leaf := range []Node{num(1), name(0), txt("a"), spot(1, -1)} {
			refuses(t, slowWrite(nested(deep, leaf)), at, api.ErrNest)
		}
	}
	begin := strings.Repeat("(neg ", mostNest+1)
	refuses(t, begin, len(begin), api.ErrShort)
	refuses(t, begin+"  ", len(begin)+2, api.ErrShort)
	for _, behind := range []string{"1", "key", "(", "(neg", "(foo", "\"", "\"a\"", "-", "01", "foo"} {
		refuses(t, begin+behind, len(begin), api.ErrNest)
		refuses(t, begin+"  "+behind, len(begin)+2, api.ErrNest)
	}
	// In each part of each kind, the last one of the others that it lies in.
	for _, k := range tells() {
		for part := range k.parts {
			for deep := mostNest; deep <= mostNest+1; deep++ {
				begin := strings.Repeat("(neg ", deep-1) + "(" + k.word + " " + strings.Repeat("1 ", part)
				s := begin + strings.Repeat("2 ", k.parts-part) + strings.Repeat(")", deep)
				at := len(begin) - 2*part
				if deep > mostNest {
					refuses(t, s, at, api.ErrNest)
				} else {
					parses(t, s, joined(nested(deep-1, is(k.op)), slices.Repeat(nodes(num(1)), part), slices.Repeat(nodes(num(2)), k.parts-part))...)
				}
				deeper := strings.Repeat("(neg ", deep-2) + "(" + k.word + " " + strings.Repeat("1 ", part) + "(neg "
				if deep > mostNest {
					refuses(t, deeper+"1", len(deeper), api.ErrNest)
				} else {
					refuses(t, deeper+"1", len(deeper)+1, api.ErrShort)
				}
			}
		}
	}
	// Nodes that are shut are none that others lie within.
	s := "(add " + strings.Repeat("(neg ", mostNest-1) + "1" + strings.Repeat(")", mostNest-1)
	parses(t, s+" "+s[5:]+")", joined(nodes(is(2)), nested(mostNest-1, num(1)), nested(mostNest-1, num(1)))...)
	refuses(t, s+" (neg "+s[5:], len(s)+1+5*mostNest, api.ErrNest)
}

func TestParseOfNodesThatAreTooDeepAndTooMany(t *testing.T) {
	for _, x := range []struct {
		first int
		e     api.Errno
	}{{mostNodes - mostNest - 5, api.ErrNest}, {mostNodes - mostNest - 2, api.ErrNest}, {mostNodes - mostNest - 1, api.ErrMany}} {
		begin := "(add " + slowWrite(tree(x.first)) + strings.Repeat(" (neg", mostNest) + " "
		for _, behind := range []string{"1", "key", "(neg 1)", "(", "foo", "01"} {
			refuses(t, begin+behind, len(begin), x.e)
		}
		refuses(t, begin, len(begin), api.ErrShort)
	}
	// One node more ahead: the node that is too many lies within just as many others as it may.
	begin := "(add " + slowWrite(tree(mostNodes-mostNest)) + strings.Repeat(" (neg", mostNest-1) + " "
	refuses(t, begin+"(neg 1)", len(begin), api.ErrMany)
}

func TestParseIsAsTheChapterSaysOfAllShortTexts(t *testing.T) {
	short := []string{""}
	for range 6 {
		var longer []string
		for _, s := range short {
			parsesAsTheChapterSays(t, s)
			for _, b := range []string{"(", ")", " ", "i", "t", "f", "0", "-", "\"", "\xff"} {
				longer = append(longer, s+b)
			}
		}
		short = longer
	}
}

func TestParseIsAsTheChapterSaysOfAllFewWords(t *testing.T) {
	few := []string{""}
	for range 6 {
		var more []string
		for _, s := range few {
			parsesAsTheChapterSays(t, s)
			for _, word := range []string{"(neg", "(add", "(if", ")", " ", "it", "1", "\"a\"", "foo"} {
				more = append(more, s+word)
			}
		}
		few = more
	}
}

func TestParseIsAsTheChapterSaysOfTextsOfChance(t *testing.T) {
	var all []string
	for _, k := range tells() {
		all = append(all, "("+k.word, "("+k.word+" ")
	}
	all = append(all, words...)
	all = append(all, ")", ")", ")", ")", ")", " ", " ", " ", " ", "(", "foo", "X", "1", "0", "-", ":", "\"", "\"a\"", "3:4", "\\", "\t", "\xff")
	var ch chance
	for range 100000 {
		parsesAsTheChapterSays(t, ch.text(ch.below(30), all))
	}
	for range 20000 {
		s := slowWrite(ch.expression(1 + ch.below(6)))
		if len(s) > mostText {
			continue
		}
		parsesAsTheChapterSays(t, s)
		at := ch.below(len(s) + 1)
		parsesAsTheChapterSays(t, s[:at])
		parsesAsTheChapterSays(t, s[:at]+" "+s[at:])
		parsesAsTheChapterSays(t, s[:at]+all[ch.below(len(all))]+s[at:])
		parsesAsTheChapterSays(t, s[:at]+s[min(len(s), at+1+ch.below(4)):])
		parsesAsTheChapterSays(t, s[:at]+byteText(ch.below(256))+s[min(len(s), at+1):])
	}
}

// 8.3: there and back

func TestWhatIsWrittenIsReadAsItWas(t *testing.T) {
	for _, l := range rights() {
		s, e := Write(l)
		if e == api.ErrLarge {
			continue
		}
		parses(t, s, l...)
		if len(s)+2 <= mostText {
			parses(t, " "+s+" ", l...)
		}
		// All blanks between words are as one.
		if !strings.Contains(s, "\"") && 3*len(s) < mostText {
			parses(t, strings.ReplaceAll(s, " ", "   "), l...)
			parses(t, strings.ReplaceAll(s, ")", "  )"), l...)
		}
	}
}

func TestWhatIsReadIsRight(t *testing.T) {
	var all []string
	for _, k := range tells() {
		all = append(all, "("+k.word+" ")
	}
	all = append(all, "1", "\"a\"", "3:4", "it", ") ", ") ", ") ", ") ", "1 ", "key ", "i ")
	var ch chance
	read := 0
	for range 300000 {
		s := ch.text(1, all) + ch.text(ch.below(6), all)
		l, _, e := Parse(s)
		if e != api.OK {
			continue
		}
		read++
		written, e := Write(l)
		again, _, _ := Parse(written)
		if !Right(l) || !slowRight(l) || e != api.OK || !slices.Equal(again, l) {
			t.Errorf("%s is read as %s, which is written %s", clip(s), clipList(l), clip(written))
		}
	}
	if read < 1000 {
		t.Errorf("no more than %d texts were read", read)
	}
}

// Rules 4 and 6: memory, and what calls hang on

// shares tells whether two texts have a byte of memory in common.
func shares(a, b string) bool {
	if a == "" || b == "" {
		return false
	}
	from, other := uintptr(unsafe.Pointer(unsafe.StringData(a))), uintptr(unsafe.Pointer(unsafe.StringData(b)))
	return from < other+uintptr(len(b)) && other < from+uintptr(len(a))
}

func TestWhatIsHandedInIsNotChanged(t *testing.T) {
	for _, l := range append(rights(), wrongs()...) {
		room := append(slices.Clone(l), is(77), is(78))
		given := room[:len(l)]
		Right(given)
		End(given, 0)
		Names(given)
		Write(given)
		if !slices.Equal(room, append(slices.Clone(l), is(77), is(78))) {
			t.Errorf("%s was changed", clipList(l))
		}
	}
}

func TestWhatIsHandedOutIsNew(t *testing.T) {
	s := `(cat "` + strings.Repeat("stook ", 20) + `" key)`
	l, _, _ := Parse(s)
	other, _, _ := Parse(s)
	want := nodes(is(14), txt(strings.Repeat("stook ", 20)), name(0))
	if shares(l[1].V.S, s) || shares(l[1].V.S, other[1].V.S) {
		t.Errorf("Parse shares memory with what it was handed, or with an earlier answer")
	}
	written, _ := Write(l)
	again, _ := Write(l)
	if shares(written, again) || shares(written, l[1].V.S) {
		t.Errorf("Write shares memory with what it was handed, or with an earlier answer")
	}
	spare := l[:cap(l)]
	for i := range spare {
		spare[i] = is(99)
	}
	if !slices.Equal(other, want) {
		t.Errorf("lists of two answers are one")
	}
	parses(t, s, want...)
}

func TestAnAnswerDoesNotFollowItsArgument(t *testing.T) {
	room := []byte(`(cat "abc" key)`)
	l, _, _ := Parse(unsafe.String(&room[0], len(room)))
	copy(room, strings.Repeat("x", len(room)))
	if !slices.Equal(l, nodes(is(14), txt("abc"), name(0))) {
		t.Errorf("Parse = %v", l)
	}
	given := nodes(is(14), txt("abc"), name(0))
	written, _ := Write(given)
	given[1] = num(1)
	if written != `(cat "abc" key)` {
		t.Errorf("Write = %s", written)
	}
}

func TestCallsDoNotHangOnEarlierOnes(t *testing.T) {
	for range 2 {
		refuses(t, "(neg (neg (foo", 11, api.ErrWord)
		parses(t, "(neg 1)", is(7), num(1))
		refuses(t, strings.Repeat("(neg ", 40), 125, api.ErrNest)
		parses(t, "key", name(0))
		if _, e := Write(nodes(is(7))); e != api.ErrArg {
			t.Errorf("Write = %d", e)
		}
		if s, e := Write(nodes(is(7), num(1))); s != "(neg 1)" || e != api.OK {
			t.Errorf("Write = %s, %d", s, e)
		}
	}
}
