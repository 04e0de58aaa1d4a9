package eval

import (
	"fmt"
	"math"
	"math/big"
	"regexp"
	"slices"
	"strconv"
	"strings"
	"testing"
	"unsafe"

	"stook/api"
	"stook/expr"
	"stook/value"
)

const (
	// mostFuel is how many steps a call may have, mostPairs how many pairs it may lay down, mostKey how many bytes a pair's key may have, mostText how many a text.
	mostFuel  = 100000
	mostPairs = 64
	mostKey   = 64
	mostText  = 4096
	// far is the greatest number, farSpot the greatest part of a point.
	far     = 1 << 53
	farSpot = 1 << 24
)

// takes tells, by the chapter, of what kinds of values each kind's parts may be: n numbers, t texts, p points. Of if, each and let it is those that are done one behind the other.
func takes(word string) []string {
	return strings.Fields(map[string]string{
		"add": "nn pp", "sub": "nn pp", "mul": "nn pp", "div": "nn pp", "mod": "nn pp", "neg": "n p",
		"less": "nn tt pp", "max": "nn tt pp", "min": "nn tt pp", "same": "nn nt np tn tt tp pn pt pp", "not": "n",
		"cat": "tt", "len": "t", "cut": "tnn", "words": "t", "word": "tn", "num": "t", "text": "n t p",
		"at": "nn", "re": "p", "im": "p", "norm": "p", "conj": "p",
		"emit": "tn tt tp", "then": "nn nt np tn tt tp pn pt pp",
		"if": "n", "each": "n nn nt np", "let": "nn nt np tn tt tp pn pt pp",
	}[word])
}

// allWords is the kinds' words, by their numbers.
func allWords() []string {
	var l []string
	for op := 2; op < 30; op++ {
		word, _, _ := expr.Parts(op)
		l = append(l, word)
	}
	return l
}

func num(n int) api.Value     { return api.Value{N: n} }
func txt(s string) api.Value  { return api.Value{Kind: 1, S: s} }
func spot(x, y int) api.Value { return api.Value{Kind: 2, P: api.Spot{X: x, Y: y}} }
func xs(n int) string         { return strings.Repeat("x", n) }

// leaf is a value as an expression, named a name.
func leaf(v api.Value) []expr.Node { return []expr.Node{{V: v}} }
func named(n int) []expr.Node      { return []expr.Node{{Op: 1, V: num(n)}} }

// kind is a kind with its parts.
func kind(word string, parts ...[]expr.Node) []expr.Node {
	op := slices.Index(allWords(), word) + 2
	return append([]expr.Node{{Op: op}}, slices.Concat(parts...)...)
}

// ofValues is a kind with values as its parts.
func ofValues(word string, l ...api.Value) []expr.Node {
	var parts [][]expr.Node
	for _, v := range l {
		parts = append(parts, leaf(v))
	}
	return kind(word, parts...)
}

// read is the list that a text is.
func read(s string) []expr.Node {
	l, at, e := expr.Parse(s)
	if e != api.OK {
		panic(fmt.Sprint(s, " ", at, " ", e))
	}
	return l
}

// usual is what stands for names where a test doesn't say.
func usual() Env { return Env{Key: "k", Val: txt("the old mill  road"), Acc: num(40)} }

// chance is a row of numbers that looks like chance and is the same each time.
type chance uint32

func (c *chance) below(n int) int {
	*c = *c*1664525 + 1013904223
	return int(*c>>16) % n
}

// one is one of these.
func one[T any](c *chance, l []T) T { return l[c.below(len(l))] }

// slow does expressions by a second rule: what stands for names is handed down, numbers have no bounds, an error ends all at once, and what a kind does is found by its word.
type slow struct {
	left int
	out  []api.Pair
}

// slowRun is what Run answers as the chapter says it.
func slowRun(l []expr.Node, env Env, fuel int) (r Result, e api.Errno) {
	if !expr.Right(l) || len(env.Key) > mostText || !value.Right(env.Val) || !value.Right(env.Acc) || fuel < 0 || fuel > mostFuel {
		return Result{}, api.ErrArg
	}
	defer func() {
		switch x := recover().(type) {
		case nil:
		case api.Errno:
			r, e = Result{}, x
		default:
			panic(x)
		}
	}()
	s := &slow{left: fuel}
	v := s.do(l, [5]api.Value{txt(env.Key), env.Val, env.Acc, num(0), num(0)})
	return Result{V: v, Out: s.out, Left: s.left}, api.OK
}

// must ends all by an error, unless this holds.
func must(holds bool, e api.Errno) {
	if !holds {
		panic(e)
	}
}

// partsOf is the parts of the node that a list begins with: each ends where as many expressions are done as were begun.
func partsOf(l []expr.Node) [][]expr.Node {
	var parts [][]expr.Node
	from, begun := 1, 1
	for at := 1; at < len(l); at++ {
		_, n, _ := expr.Parts(l[at].Op)
		begun += n - 1
		if begun == 0 {
			parts = append(parts, l[from:at+1])
			from, begun = at+1, 1
		}
	}
	return parts
}

func (s *slow) do(l []expr.Node, names [5]api.Value) api.Value {
	must(s.left > 0, api.ErrFuel)
	s.left--
	switch l[0].Op {
	case 0:
		return l[0].V
	case 1:
		return names[l[0].V.N]
	}
	word, _, _ := expr.Parts(l[0].Op)
	parts := partsOf(l)
	switch word {
	case "if":
		first := s.do(parts[0], names)
		must(first.Kind == 0, api.ErrType)
		if first.N == 0 {
			return s.do(parts[2], names)
		}
		return s.do(parts[1], names)
	case "each":
		first := s.do(parts[0], names)
		must(first.Kind == 0, api.ErrType)
		must(first.N >= 0, api.ErrRange)
		last := num(0)
		for i := range first.N {
			names[3] = num(i)
			last = s.do(parts[1], names)
		}
		return last
	case "let":
		names[4] = s.do(parts[0], names)
		return s.do(parts[1], names)
	}
	var p []api.Value
	letters := ""
	for _, part := range parts {
		v := s.do(part, names)
		p = append(p, v)
		letters += []string{"n", "t", "p"}[v.Kind]
	}
	must(slices.Contains(takes(word), letters), api.ErrType)
	if word == "emit" {
		must(len(p[0].S) <= mostKey, api.ErrLarge)
		must(len(s.out) < mostPairs, api.ErrMany)
		s.out = append(s.out, api.Pair{Key: p[0].S, Val: p[1]})
		return p[1]
	}
	return slowKind(word, p)
}

// slowKind is what a kind makes of values that its parts may be.
func slowKind(word string, p []api.Value) api.Value {
	a, b := p[0], p[len(p)-1]
	switch word {
	case "add", "sub", "mul", "div", "mod":
		if a.Kind == 0 {
			return slowNumbers(word, a.N, b.N)
		}
		return slowSpots(word, a.P, b.P)
	case "neg":
		return api.Value{Kind: a.Kind, N: -a.N, P: api.Spot{X: -a.P.X, Y: -a.P.Y}}
	case "less":
		return slowYes(slowAhead(a, b))
	case "max":
		return []api.Value{a, b}[slowYes(!slowAhead(b, a)).N]
	case "min":
		return []api.Value{a, b}[slowYes(slowAhead(b, a)).N]
	case "same":
		return slowYes(value.Write(a) == value.Write(b))
	case "not":
		return slowYes(a.N == 0)
	case "at":
		must(max(a.N, -a.N, b.N, -b.N) <= farSpot, api.ErrRange)
		return spot(a.N, b.N)
	case "re":
		return num(a.P.X)
	case "im":
		return num(a.P.Y)
	case "norm":
		return num(a.P.X*a.P.X + a.P.Y*a.P.Y)
	case "conj":
		return spot(a.P.X, -a.P.Y)
	case "then":
		return b
	}
	return slowTexts(word, p)
}

var digits = regexp.MustCompile(`^(0|-?[1-9][0-9]*)$`)

// slowTexts is what a kind whose first part is a text makes of values, or text.
func slowTexts(word string, p []api.Value) api.Value {
	s := p[0].S
	stretches := slices.DeleteFunc(strings.Split(s, " "), func(s string) bool { return s == "" })
	switch word {
	case "cat":
		must(len(s+p[1].S) <= mostText, api.ErrLarge)
		return txt(s + p[1].S)
	case "len":
		return num(len(s))
	case "cut":
		from, to := p[1].N, p[2].N
		must(0 <= from && from <= to && to <= len(s), api.ErrRange)
		return txt(s[from:to])
	case "words":
		return num(len(stretches))
	case "word":
		must(p[1].N >= 0 && p[1].N < len(stretches), api.ErrRange)
		return txt(stretches[p[1].N])
	case "num":
		must(digits.MatchString(s), api.ErrForm)
		n, _ := new(big.Int).SetString(s, 10)
		must(new(big.Int).Abs(n).Cmp(big.NewInt(far)) <= 0, api.ErrForm)
		return num(int(n.Int64()))
	case "text":
		if p[0].Kind == 1 {
			return p[0]
		}
		return txt(value.Write(p[0]))
	}
	panic("no such kind: " + word)
}

// slowAhead tells whether a value comes ahead of another one of its kind.
func slowAhead(a, b api.Value) bool {
	return a.N < b.N || a.S < b.S || a.P.X < b.P.X || a.P.X == b.P.X && a.P.Y < b.P.Y
}

func slowYes(yes bool) api.Value { return num(map[bool]int{true: 1}[yes]) }

// slowFloor is the quotient of numbers, rounded down, and the rest.
func slowFloor(a, b *big.Int) (*big.Int, *big.Int) {
	must(b.Sign() != 0, api.ErrZero)
	q, r := new(big.Int).DivMod(a, b, new(big.Int))
	if b.Sign() < 0 && r.Sign() > 0 {
		// The library's rest is never below 0.
		q.Sub(q, big.NewInt(1))
		r.Add(r, b)
	}
	return q, r
}

func slowNumbers(word string, a, b int) api.Value {
	x, y, z := big.NewInt(int64(a)), big.NewInt(int64(b)), new(big.Int)
	switch word {
	case "add":
		z.Add(x, y)
	case "sub":
		z.Sub(x, y)
	case "mul":
		z.Mul(x, y)
	case "div":
		z, _ = slowFloor(x, y)
	case "mod":
		_, z = slowFloor(x, y)
	}
	must(new(big.Int).Abs(z).Cmp(big.NewInt(far)) <= 0, api.ErrRange)
	return num(int(z.Int64()))
}

func slowSpots(word string, a, b api.Spot) api.Value {
	v := api.Spot{X: a.X + b.X, Y: a.Y + b.Y}
	switch word {
	case "sub":
		v = api.Spot{X: a.X - b.X, Y: a.Y - b.Y}
	case "mul":
		v = api.Spot{X: a.X*b.X - a.Y*b.Y, Y: a.X*b.Y + a.Y*b.X}
	case "div", "mod":
		n := int64(b.X*b.X + b.Y*b.Y)
		nearest := func(part int) int {
			q, _ := slowFloor(big.NewInt(2*int64(part)+n), big.NewInt(2*n))
			return int(q.Int64())
		}
		v = api.Spot{X: nearest(a.X*b.X + a.Y*b.Y), Y: nearest(a.Y*b.X - a.X*b.Y)}
		if word == "mod" {
			v = api.Spot{X: a.X - v.X*b.X + v.Y*b.Y, Y: a.Y - v.X*b.Y - v.Y*b.X}
		}
	}
	must(max(v.X, -v.X, v.Y, -v.Y) <= farSpot, api.ErrRange)
	return api.Value{Kind: 2, P: v}
}

// clip is a list, or a value, as a fault tells it.
func clip(x any) string {
	s := fmt.Sprint(x)
	if l, ok := x.([]expr.Node); ok {
		if w, e := expr.Write(l); e == api.OK {
			s = w
		}
	}
	if len(s) > 120 {
		return strconv.Quote(s[:60]) + ".." + strconv.Quote(s[len(s)-60:])
	}
	return s
}

// alike tells whether two answers are.
func alike(a, b Result) bool {
	return a.V == b.V && a.Left == b.Left && slices.Equal(a.Out, b.Out)
}

// runs asks whether Run answers this.
func runs(t *testing.T, l []expr.Node, env Env, fuel int, want Result, wantError api.Errno) {
	t.Helper()
	if got, e := Run(l, env, fuel); !alike(got, want) || e != wantError {
		t.Errorf("Run of %s with %d steps = %s, %d, want %s, %d", clip(l), fuel, clip(got), e, clip(want), wantError)
	}
}

// stepsAre asks whether Steps answers this.
func stepsAre(t *testing.T, l []expr.Node, env Env, want int, wantError api.Errno) {
	t.Helper()
	if got, e := Steps(l, env); got != want || e != wantError {
		t.Errorf("Steps of %s = %d, %d, want %d, %d", clip(l), got, e, want, wantError)
	}
}

// comesTo asks whether a list comes to this value and these pairs in just so many steps, with more of them too, and with fewer to nothing.
func comesTo(t *testing.T, l []expr.Node, env Env, steps int, v api.Value, out ...api.Pair) {
	t.Helper()
	stepsAre(t, l, env, steps, api.OK)
	for _, more := range []int{0, 1, 2, 1000, mostFuel - steps} {
		if steps+more <= mostFuel {
			runs(t, l, env, steps+more, Result{V: v, Out: out, Left: more}, api.OK)
		}
	}
	for _, fuel := range []int{steps - 1, steps - 2, steps / 2, 1, 0} {
		if fuel >= 0 && fuel < steps {
			runs(t, l, env, fuel, Result{}, api.ErrFuel)
		}
	}
}

// endsBy asks whether a list ends by this error in its so many-th step, with fewer steps by their lack, and with nothing beside.
func endsBy(t *testing.T, l []expr.Node, env Env, steps int, e api.Errno) {
	t.Helper()
	stepsAre(t, l, env, 0, e)
	for _, fuel := range []int{steps, steps + 1, steps + 1000, mostFuel} {
		if fuel <= mostFuel {
			runs(t, l, env, fuel, Result{}, e)
		}
	}
	for _, fuel := range []int{steps - 1, steps - 2, steps / 2, 1, 0} {
		if fuel >= 0 && fuel < steps {
			runs(t, l, env, fuel, Result{}, api.ErrFuel)
		}
	}
}

// comes asks whether a written expression, each of whose nodes is done once, comes to a written value.
func comes(t *testing.T, s, want string) {
	t.Helper()
	v, _, _ := value.Parse(want)
	comesTo(t, read(s), usual(), len(read(s)), v)
}

// fails asks whether a written expression, each of whose nodes is done once, ends by an error.
func fails(t *testing.T, s string, e api.Errno) {
	t.Helper()
	endsBy(t, read(s), usual(), len(read(s)), e)
}

// isAsTheChapterSays holds Run and Steps against slowRun, with all of these steps, or, where it takes fewer, with just as many and one less.
func isAsTheChapterSays(t *testing.T, l []expr.Node, env Env, fuel int) {
	t.Helper()
	want, e := slowRun(l, env, fuel)
	runs(t, l, env, fuel, want, e)
	if fuel == mostFuel && e != api.OK {
		stepsAre(t, l, env, 0, e)
	}
	if e == api.OK {
		steps := fuel - want.Left
		stepsAre(t, l, env, steps, api.OK)
		runs(t, l, env, steps, Result{V: want.V, Out: want.Out}, api.OK)
		runs(t, l, env, steps-1, Result{}, api.ErrFuel)
	}
}

// numbers, texts and spots are values around all edges; few is some of each.
func numbers() []api.Value {
	var l []api.Value
	for _, n := range []int{0, 1, 2, 3, 5, 7, mostKey, farSpot - 1, farSpot, farSpot + 1, 1 << 26, 1 << 27, 1 << 32, 94906265, 94906266, 3002399751580331, far/2 - 1, far / 2, far/2 + 1, far - 1, far} {
		l = append(l, num(n))
		if n > 0 {
			l = append(l, num(-n))
		}
	}
	return l
}

func texts() []api.Value {
	var l []api.Value
	for _, s := range []string{
		"", " ", "  ", "a", "b", "ab", "a b", " a  b ", "the old mill", "a\x00", "a\tb", "\xff", "\xff \x80", "ä", "a\u00a0b", "0", "7", "-12", "01", "-0", "-", "+1", "1 ", " 1", "1:2", `"a"`, "9007199254740992", "9007199254740993", "-9007199254740992", "-9007199254740993",
		xs(mostKey - 1), xs(mostKey), xs(mostKey + 1), xs(mostText - 1), xs(mostText), strings.Repeat("a ", mostText/2), strings.Repeat(" ", mostText),
	} {
		l = append(l, txt(s))
	}
	return l
}

func spots() []api.Value {
	var l []api.Value
	for _, p := range [][2]int{
		{0, 0}, {1, 0}, {0, 1}, {-1, 0}, {0, -1}, {1, 1}, {1, 2}, {3, -1}, {-3, 4}, {5, 5}, {2, 0}, {0, -2}, {4096, 4096}, {-4096, 4097}, {farSpot / 2, -farSpot / 2}, {farSpot/2 + 1, 3},
		{farSpot, 0}, {0, farSpot}, {-farSpot, 0}, {0, -farSpot}, {farSpot, farSpot}, {farSpot, -farSpot}, {-farSpot, farSpot}, {-farSpot, -farSpot}, {farSpot - 1, farSpot}, {-farSpot, 1 - farSpot}, {1 - farSpot, farSpot - 1},
	} {
		l = append(l, spot(p[0], p[1]))
	}
	return l
}

func all() []api.Value { return slices.Concat(numbers(), texts(), spots()) }

func few() []api.Value {
	return []api.Value{num(0), num(1), num(2), num(-1), num(3), num(far), num(-far), txt(""), txt("a"), txt("ab c"), txt("12"), txt(xs(mostKey + 1)), txt(xs(mostText)), spot(0, 0), spot(1, -2), spot(farSpot, -farSpot)}
}

// 9.1: values and names

func TestAValueIsItself(t *testing.T) {
	for _, v := range all() {
		comesTo(t, leaf(v), usual(), 1, v)
		comesTo(t, leaf(v), Env{}, 1, v)
	}
}

func TestANameIsWhatStandsForIt(t *testing.T) {
	for _, v := range all() {
		for _, w := range few() {
			env := Env{Key: "a key", Val: v, Acc: w}
			comesTo(t, read("key"), env, 1, txt("a key"))
			comesTo(t, read("val"), env, 1, v)
			comesTo(t, read("acc"), env, 1, w)
			comesTo(t, read("i"), env, 1, num(0))
			comesTo(t, read("it"), env, 1, num(0))
		}
		if v.Kind == 1 {
			comesTo(t, read("key"), Env{Key: v.S}, 1, v)
		}
	}
	comesTo(t, read("key"), Env{}, 1, txt(""))
	comesTo(t, read("val"), Env{}, 1, num(0))
	comesTo(t, read("acc"), Env{}, 1, num(0))
}

// 9.1: each kind

func TestEachKindWithEachKindOfValues(t *testing.T) {
	some := []api.Value{num(1), txt("1 2"), spot(1, 1)}
	for _, word := range allWords() {
		_, parts, _ := expr.Parts(kind(word)[0].Op)
		for n := range 27 {
			p := []api.Value{some[n%3], some[n/3%3], some[n/9]}[:parts]
			letters := ""
			for _, v := range p {
				letters += []string{"n", "t", "p"}[v.Kind]
			}
			l := ofValues(word, p...)
			_, e := Run(l, usual(), mostFuel)
			right := slices.Contains(takes(word), letters) || slices.Contains(takes(word), letters[:1])
			if right == (e == api.ErrType) {
				t.Errorf("Run of %s = %d", clip(l), e)
			}
			isAsTheChapterSays(t, l, usual(), mostFuel)
		}
	}
}

func TestEachKindOfWrongValuesOnceAllPartsAreDone(t *testing.T) {
	for s, parts := range map[string]int{
		`(add "a" 1)`: 3, `(add 1 "a")`: 3, `(add "a" "b")`: 3, `(add 1 1:0)`: 3, `(add 1:0 1)`: 3, `(add 1:0 "a")`: 3, `(sub 1 1:0)`: 3, `(sub "a" "a")`: 3, `(mul 2 1:0)`: 3, `(mul "a" 2)`: 3, `(mul "a" "a")`: 3,
		`(div 0 1:0)`: 3, `(div 1:0 0)`: 3, `(div "a" 0)`: 3, `(div "a" "b")`: 3, `(mod 1 0:0)`: 3, `(mod 1:1 0)`: 3, `(mod "a" "b")`: 3, `(neg "1")`: 2,
		`(less 1 "a")`: 3, `(less 1 1:0)`: 3, `(less "a" 1:0)`: 3, `(less "a" 1)`: 3, `(less 1:0 1)`: 3, `(less 1:0 "a")`: 3, `(max 1 "a")`: 3, `(max 1:0 1)`: 3, `(min "a" 1)`: 3, `(min "a" 1:0)`: 3,
		`(not "")`: 2, `(not 0:0)`: 2, `(cat "a" 1)`: 3, `(cat 1 "a")`: 3, `(cat 1 2)`: 3, `(cat "a" 1:0)`: 3, `(len 1)`: 2, `(len 1:0)`: 2,
		`(cut 1 0 0)`: 4, `(cut "a" "" 0)`: 4, `(cut "a" 0 "")`: 4, `(cut "a" 0:0 0)`: 4, `(cut "a" 9 0:0)`: 4, `(words 1)`: 2, `(words 1:0)`: 2, `(word 1 0)`: 3, `(word "a" "0")`: 3, `(word "a" 0:0)`: 3, `(word 1:0 9)`: 3,
		`(num 1)`: 2, `(num 1:0)`: 2, `(at 1 "1")`: 3, `(at "1" 1)`: 3, `(at 1:0 1)`: 3, `(at 1:0 1:0)`: 3, `(at 16777217 1:0)`: 3,
		`(re 1)`: 2, `(re "1:2")`: 2, `(im 1)`: 2, `(im "1:2")`: 2, `(norm 1)`: 2, `(norm "a")`: 2, `(conj 1)`: 2, `(conj "a")`: 2,
		`(emit 1 1)`: 3, `(emit 1:0 1)`: 3, `(emit acc "a")`: 3,
	} {
		if len(read(s)) != parts {
			t.Fatalf("%s has %d nodes", s, len(read(s)))
		}
		fails(t, s, api.ErrType)
	}
	// A part behind one of a wrong kind is done first, and its error comes first.
	for s, e := range map[string]api.Errno{
		`(add "a" (div 1 0))`: api.ErrZero, `(sub "a" (num "x"))`: api.ErrForm, `(mul "a" (cut "" 0 1))`: api.ErrRange, `(div "a" (div 1 0))`: api.ErrZero, `(mod "a" (num ""))`: api.ErrForm,
		`(less "a" (div 1 0))`: api.ErrZero, `(max 1:0 (div 1 0))`: api.ErrZero, `(min 1:0 (div 1 0))`: api.ErrZero, `(cat 1 (div 1 0))`: api.ErrZero, `(cut 1 0 (div 1 0))`: api.ErrZero, `(cut 1 "a" (num "-"))`: api.ErrForm,
		`(word 1 (div 1 0))`: api.ErrZero, `(at "a" (div 1 0))`: api.ErrZero, `(emit 1 (div 1 0))`: api.ErrZero, `(same 1 (div 1 0))`: api.ErrZero,
	} {
		endsBy(t, read(s), usual(), len(read(s)), e)
	}
}

func TestEachKindOfAllValues(t *testing.T) {
	for _, word := range allWords() {
		_, parts, _ := expr.Parts(kind(word)[0].Op)
		switch parts {
		case 1:
			for _, v := range all() {
				isAsTheChapterSays(t, ofValues(word, v), usual(), mostFuel)
			}
		case 2:
			for _, v := range all() {
				if word == "each" && v.N > 100 {
					continue
				}
				for _, w := range all() {
					isAsTheChapterSays(t, ofValues(word, v, w), usual(), mostFuel)
				}
			}
		case 3:
			for _, v := range few() {
				for _, w := range few() {
					for _, x := range few() {
						isAsTheChapterSays(t, ofValues(word, v, w, x), usual(), mostFuel)
					}
				}
			}
		}
	}
}

func TestAddSubMulOfNumbers(t *testing.T) {
	for s, want := range map[string]string{
		"(add 1 2)": "3", "(add acc 2)": "42", "(add 5 -7)": "-2", "(add 0 0)": "0", "(sub 1 2)": "-1", "(sub 2 1)": "1", "(sub 5 -7)": "12", "(mul 6 7)": "42", "(mul -6 7)": "-42", "(mul -6 -7)": "42", "(mul 0 -7)": "0",
		"(add 9007199254740991 1)": "9007199254740992", "(add 1 9007199254740991)": "9007199254740992", "(add 9007199254740992 0)": "9007199254740992", "(add 9007199254740992 -1)": "9007199254740991", "(add 9007199254740992 -9007199254740992)": "0",
		"(add -9007199254740991 -1)": "-9007199254740992", "(add 0 -9007199254740992)": "-9007199254740992", "(add 4503599627370496 4503599627370496)": "9007199254740992",
		"(sub 9007199254740991 -1)": "9007199254740992", "(sub 0 -9007199254740992)": "9007199254740992", "(sub -9007199254740991 1)": "-9007199254740992", "(sub 0 9007199254740992)": "-9007199254740992", "(sub -9007199254740992 -9007199254740992)": "0", "(sub -1 -9007199254740992)": "9007199254740991",
		"(mul 67108864 134217728)": "9007199254740992", "(mul -67108864 134217728)": "-9007199254740992", "(mul 67108864 -134217728)": "-9007199254740992", "(mul -67108864 -134217728)": "9007199254740992", "(mul 4503599627370496 2)": "9007199254740992", "(mul 2 -4503599627370496)": "-9007199254740992",
		"(mul 9007199254740992 1)": "9007199254740992", "(mul -9007199254740992 -1)": "9007199254740992", "(mul -1 9007199254740992)": "-9007199254740992", "(mul 9007199254740992 0)": "0", "(mul 0 -9007199254740992)": "0", "(mul 94906265 94906265)": "9007199136250225", "(mul 6361 1416003655831)": "9007199254740991",
	} {
		comes(t, s, want)
	}
	for _, s := range []string{
		"(add 9007199254740992 1)", "(add 1 9007199254740992)", "(add 9007199254740991 2)", "(add 9007199254740992 9007199254740992)", "(add -9007199254740992 -1)", "(add -9007199254740992 -9007199254740992)", "(add 4503599627370497 4503599627370496)",
		"(sub 9007199254740992 -1)", "(sub 1 -9007199254740992)", "(sub -9007199254740992 1)", "(sub -2 9007199254740991)", "(sub -1 9007199254740992)", "(sub 9007199254740992 -9007199254740992)", "(sub -9007199254740992 9007199254740992)",
		"(mul 3 3002399751580331)", "(mul -3 3002399751580331)", "(mul 3002399751580331 -3)", "(mul 9007199254740992 2)", "(mul 2 9007199254740992)", "(mul -9007199254740992 2)", "(mul 2 -9007199254740992)", "(mul 94906266 94906266)", "(mul 4503599627370497 2)",
		// Such as would wrap round, to 0, to small numbers, and to numbers of the other sign.
		"(mul 4294967296 4294967296)", "(mul -4294967296 4294967296)", "(mul 9007199254740992 2048)", "(mul 9007199254740992 9007199254740992)", "(mul -9007199254740992 9007199254740992)", "(mul -9007199254740992 -9007199254740992)", "(mul 4294967296 4294967297)", "(mul 4294967297 4294967297)", "(mul -4294967297 4294967297)", "(mul 3037000500 3037000500)", "(mul 6148914691236517 3000)", "(mul 9007199254740991 9007199254740991)", "(mul 1024 9007199254740991)",
	} {
		fails(t, s, api.ErrRange)
	}
}

func TestAddSubMulOfPoints(t *testing.T) {
	for s, want := range map[string]string{
		"(add 1:2 3:-1)": "4:1", "(sub 1:2 3:-1)": "-2:3", "(mul 1:2 3:-1)": "5:5", "(mul 0:1 0:1)": "-1:0", "(add 0:0 0:0)": "0:0", "(mul 0:0 16777216:16777216)": "0:0",
		"(add 16777215:0 1:0)": "16777216:0", "(add 0:16777215 0:1)": "0:16777216", "(add -16777215:0 -1:0)": "-16777216:0", "(add 0:-16777215 0:-1)": "0:-16777216", "(add 16777216:-16777216 -16777216:16777216)": "0:0",
		"(sub 16777215:0 -1:0)": "16777216:0", "(sub 0:16777215 0:-1)": "0:16777216", "(sub -16777215:0 1:0)": "-16777216:0", "(sub 0:-16777215 0:1)": "0:-16777216", "(sub 0:0 16777216:-16777216)": "-16777216:16777216",
		"(mul 4096:0 4096:0)": "16777216:0", "(mul 4096:0 0:4096)": "0:16777216", "(mul 4096:0 0:-4096)": "0:-16777216", "(mul 0:4096 0:4096)": "-16777216:0", "(mul 8388608:0 2:2)": "16777216:16777216", "(mul 16777216:-16777216 0:1)": "16777216:16777216", "(mul 8388608:8388608 1:1)": "0:16777216",
	} {
		comes(t, s, want)
	}
	for _, s := range []string{
		"(add 16777216:0 1:0)", "(add 0:16777216 0:1)", "(add -16777216:0 -1:0)", "(add 0:-16777216 0:-1)", "(add 16777216:16777216 16777216:16777216)", "(sub 16777216:0 -1:0)", "(sub 0:16777216 0:-1)", "(sub -16777216:0 1:0)", "(sub 0:-16777216 0:1)",
		"(mul 4097:0 4096:0)", "(mul 0:4097 4096:0)", "(mul 0:4097 0:4096)", "(mul 4097:0 0:-4096)", "(mul 16777216:16777216 1:1)", "(mul 16777216:16777216 16777216:16777216)", "(mul 16777216:-16777216 1:1)", "(mul 3:0 5592406:0)",
	} {
		fails(t, s, api.ErrRange)
	}
}

func TestDivAndModOfNumbers(t *testing.T) {
	for s, want := range map[string][2]string{
		"7 2": {"3", "1"}, "-7 2": {"-4", "1"}, "7 -2": {"-4", "-1"}, "-7 -2": {"3", "-1"}, "6 2": {"3", "0"}, "-6 2": {"-3", "0"}, "6 -2": {"-3", "0"}, "-6 -2": {"3", "0"},
		"1 3": {"0", "1"}, "-1 3": {"-1", "2"}, "1 -3": {"-1", "-2"}, "-1 -3": {"0", "-1"}, "0 3": {"0", "0"}, "0 -3": {"0", "0"}, "5 5": {"1", "0"}, "5 -5": {"-1", "0"}, "5 1": {"5", "0"}, "5 -1": {"-5", "0"}, "-5 -1": {"5", "0"},
		"9007199254740992 1": {"9007199254740992", "0"}, "9007199254740992 -1": {"-9007199254740992", "0"}, "-9007199254740992 1": {"-9007199254740992", "0"}, "-9007199254740992 -1": {"9007199254740992", "0"},
		"9007199254740992 9007199254740992": {"1", "0"}, "-9007199254740992 9007199254740992": {"-1", "0"}, "9007199254740992 -9007199254740992": {"-1", "0"}, "9007199254740991 9007199254740992": {"0", "9007199254740991"}, "-1 9007199254740992": {"-1", "9007199254740991"}, "1 -9007199254740992": {"-1", "-9007199254740991"},
		"-9007199254740992 9007199254740991": {"-2", "9007199254740990"}, "9007199254740992 -9007199254740991": {"-2", "-9007199254740990"}, "9007199254740992 2": {"4503599627370496", "0"}, "9007199254740991 2": {"4503599627370495", "1"}, "-9007199254740991 2": {"-4503599627370496", "1"}, "9007199254740991 -2": {"-4503599627370496", "-1"}, "9007199254740992 3": {"3002399751580330", "2"}, "-9007199254740992 3": {"-3002399751580331", "1"},
	} {
		comes(t, "(div "+s+")", want[0])
		comes(t, "(mod "+s+")", want[1])
	}
	for _, n := range []string{"0", "1", "-1", "7", "9007199254740992", "-9007199254740992"} {
		fails(t, "(div "+n+" 0)", api.ErrZero)
		fails(t, "(mod "+n+" 0)", api.ErrZero)
	}
}

func TestDivAndModGoTogether(t *testing.T) {
	for a := -40; a <= 40; a++ {
		for b := -12; b <= 12; b++ {
			if b == 0 {
				continue
			}
			q, _ := Run(ofValues("div", num(a), num(b)), Env{}, mostFuel)
			r, _ := Run(ofValues("mod", num(a), num(b)), Env{}, mostFuel)
			if q.V.N != int(math.Floor(float64(a)/float64(b))) || q.V.N*b+r.V.N != a || r.V.N*b < 0 || max(r.V.N, -r.V.N) >= max(b, -b) {
				t.Errorf("%d by %d: %d, %d", a, b, q.V.N, r.V.N)
			}
		}
	}
}

func TestDivAndModOfPoints(t *testing.T) {
	for s, want := range map[string][2]string{
		"5:5 2:0": {"3:3", "-1:-1"}, "5:5 1:2": {"3:-1", "0:0"}, "5:5 3:-1": {"1:2", "0:0"}, "0:0 3:4": {"0:0", "0:0"}, "1:0 2:0": {"1:0", "-1:0"}, "-1:0 2:0": {"0:0", "-1:0"}, "0:-1 2:0": {"0:0", "0:-1"}, "3:4 5:0": {"1:1", "-2:-1"}, "7:3 7:3": {"1:0", "0:0"},
		"16777216:16777216 1:1": {"16777216:0", "0:0"}, "16777216:-16777216 1:1": {"0:-16777216", "0:0"}, "16777216:16777216 0:1": {"16777216:-16777216", "0:0"}, "16777216:16777216 -1:0": {"-16777216:-16777216", "0:0"}, "-16777216:16777216 0:-1": {"-16777216:-16777216", "0:0"}, "16777216:16777216 1:0": {"16777216:16777216", "0:0"}, "16777215:16777216 1:1": {"16777216:1", "0:-1"}, "1:1 16777216:-16777216": {"0:0", "1:1"},
	} {
		comes(t, "(div "+s+")", want[0])
		comes(t, "(mod "+s+")", want[1])
	}
	for _, p := range []string{"0:0", "1:0", "-3:4", "16777216:-16777216"} {
		fails(t, "(div "+p+" 0:0)", api.ErrZero)
		fails(t, "(mod "+p+" 0:0)", api.ErrZero)
	}
}

func TestNoQuotientOfPointsIsOutOfRange(t *testing.T) {
	for x := farSpot - 3; x <= farSpot; x++ {
		for y := farSpot - 3; y <= farSpot; y++ {
			for n := range 25 {
				for _, sign := range []int{1, -1} {
					if n == 12 {
						continue
					}
					isAsTheChapterSays(t, ofValues("div", spot(x, sign*y), spot(n/5-2, n%5-2)), Env{}, mostFuel)
					isAsTheChapterSays(t, ofValues("mod", spot(-x, sign*y), spot(n/5-2, n%5-2)), Env{}, mostFuel)
				}
			}
		}
	}
}

func TestNeg(t *testing.T) {
	for s, want := range map[string]string{
		"0": "0", "1": "-1", "-1": "1", "acc": "-40", "9007199254740992": "-9007199254740992", "-9007199254740992": "9007199254740992", "9007199254740991": "-9007199254740991",
		"0:0": "0:0", "1:-2": "-1:2", "1:0": "-1:0", "0:1": "0:-1", "16777216:-16777216": "-16777216:16777216", "-16777216:16777216": "16777216:-16777216",
	} {
		comes(t, "(neg "+s+")", want)
	}
	for _, s := range []string{`""`, `"1"`, "key", "val"} {
		fails(t, "(neg "+s+")", api.ErrType)
	}
}

func TestLessMaxAndMin(t *testing.T) {
	// The first comes ahead of the second one.
	for _, x := range [][2]string{
		{"1", "2"}, {"-1", "0"}, {"-2", "-1"}, {"9", "10"}, {"9007199254740991", "9007199254740992"}, {"-9007199254740992", "-9007199254740991"}, {"-9007199254740992", "9007199254740992"},
		{`""`, `"\00"`}, {`"a"`, `"b"`}, {`"a"`, `"ab"`}, {`"ab"`, `"b"`}, {`"B"`, `"a"`}, {`"a"`, `"a\00"`}, {`"a\00"`, `"a\01"`}, {`"10"`, `"9"`}, {`"a\7f"`, `"a\80"`}, {`"\fe"`, `"\ff"`}, {`" "`, `"a"`},
		{"1:2", "1:3"}, {"1:2", "2:0"}, {"0:9", "1:0"}, {"-1:0", "0:0"}, {"0:-1", "0:0"}, {"16777215:16777216", "16777216:-16777216"}, {"16777216:16777215", "16777216:16777216"}, {"-16777216:-16777216", "-16777216:-16777215"},
	} {
		a, b := x[0], x[1]
		comes(t, "(less "+a+" "+b+")", "1")
		comes(t, "(less "+b+" "+a+")", "0")
		comes(t, "(max "+a+" "+b+")", b)
		comes(t, "(max "+b+" "+a+")", b)
		comes(t, "(min "+a+" "+b+")", a)
		comes(t, "(min "+b+" "+a+")", a)
		for _, y := range x {
			comes(t, "(less "+y+" "+y+")", "0")
			comes(t, "(max "+y+" "+y+")", y)
			comes(t, "(min "+y+" "+y+")", y)
		}
	}
	for _, word := range []string{"less", "max", "min"} {
		for _, x := range []string{"1 \"a\"", "\"a\" 1", "1 1:0", "1:0 1", "\"a\" 1:0", "1:0 \"a\"", "0 \"\"", "0 0:0", "\"\" 0:0", "i key"} {
			fails(t, "("+word+" "+x+")", api.ErrType)
		}
	}
}

func TestSameAndNot(t *testing.T) {
	for s, want := range map[string]string{
		"(same 1 1)": "1", "(same 1 2)": "0", "(same 1 -1)": "0", "(same 0 0)": "1", "(same 9007199254740992 9007199254740992)": "1", "(same 9007199254740992 9007199254740991)": "0",
		`(same "" "")`: "1", `(same "a" "a")`: "1", `(same "a" "b")`: "0", `(same "a" "a\00")`: "0", `(same "a" "A")`: "0", "(same key \"k\")": "1", "(same val val)": "1",
		"(same 1:2 1:2)": "1", "(same 1:2 2:1)": "0", "(same 1:2 1:-2)": "0", "(same 0:0 0:0)": "1",
		"(same 1 1:0)": "0", "(same 1:0 1)": "0", `(same 1 "1")`: "0", `(same "1" 1)`: "0", `(same "1:0" 1:0)`: "0", `(same 0 "")`: "0", "(same 0 0:0)": "0", `(same "" 0:0)`: "0", `(same 0:0 "")`: "0",
		"(not 0)": "1", "(not 1)": "0", "(not -1)": "0", "(not 2)": "0", "(not 9007199254740992)": "0", "(not -9007199254740992)": "0", "(not i)": "1", "(not (not 5))": "1",
	} {
		comes(t, s, want)
	}
	for _, s := range []string{`""`, `"0"`, "0:0", "1:1", "key"} {
		fails(t, "(not "+s+")", api.ErrType)
	}
}

func TestIf(t *testing.T) {
	for first, chosen := range map[string]string{"0": "7", "1": `"a"`, "-1": `"a"`, "2": `"a"`, "9007199254740992": `"a"`, "-9007199254740992": `"a"`, "i": "7", "acc": `"a"`} {
		v, _, _ := value.Parse(chosen)
		comesTo(t, read("(if "+first+` "a" 7)`), usual(), 3, v)
	}
	for _, first := range []string{`""`, `"0"`, `"a"`, "0:0", "1:0", "key", "val"} {
		// None of the others is done.
		for _, others := range []string{"1 2", "(div 1 0) (div 1 0)", "(num \"\") key"} {
			endsBy(t, read("(if "+first+" "+others+")"), usual(), 2, api.ErrType)
		}
	}
	endsBy(t, read("(if (div 1 0) 1 2)"), usual(), 4, api.ErrZero)
	// What isn't chosen is no error, takes no step, and lays nothing down.
	comesTo(t, read("(if 1 2 (div 1 0))"), usual(), 3, num(2))
	comesTo(t, read("(if 0 (div 1 0) 2)"), usual(), 3, num(2))
	comesTo(t, read("(if -1 2 (each 100000 1))"), usual(), 3, num(2))
	comesTo(t, read("(if 1 (emit key 2) (emit \"a\" 3))"), usual(), 5, num(2), api.Pair{Key: "k", Val: num(2)})
	comesTo(t, read("(if 0 (emit key 2) (emit \"a\" 3))"), usual(), 5, num(3), api.Pair{Key: "a", Val: num(3)})
	comesTo(t, read("(if 0 (emit 1 2) it)"), usual(), 3, num(0))
	comesTo(t, read("(then (if 1 2 (emit key 3)) (if 0 (emit key 4) 5))"), usual(), 7, num(5))
	comesTo(t, read("(if (emit key 0) 1 (if 5 (add 1 1) (add 2 2)))"), usual(), 9, num(2), api.Pair{Key: "k"})
	endsBy(t, read("(if 1 (div 1 0) 2)"), usual(), 5, api.ErrZero)
	endsBy(t, read("(if 0 1 (neg key))"), usual(), 4, api.ErrType)
	// A part is chosen anew each time.
	comesTo(t, read("(each 6 (if (mod i 2) (emit \"odd\" i) (neg i)))"), usual(), 2+6*(1+3)+3*(3+2), num(5), api.Pair{Key: "odd", Val: num(1)}, api.Pair{Key: "odd", Val: num(3)}, api.Pair{Key: "odd", Val: num(5)})
}

func TestCatAndLen(t *testing.T) {
	for s, want := range map[string]string{
		`(cat "a" "b")`: `"ab"`, `(cat "" "")`: `""`, `(cat "a" "")`: `"a"`, `(cat "" "a")`: `"a"`, `(cat key val)`: `"kthe old mill  road"`, `(cat "\ff" "\00")`: `"\ff\00"`, `(cat (cat "a" "b") (cat "c" "d"))`: `"abcd"`,
		`(len "")`: "0", `(len "a")`: "1", `(len val)`: "18", `(len "\00\ff")`: "2", `(len "\c3\a4")`: "2", `(len " ")`: "1", `(len (cat key "xyz"))`: "4",
	} {
		comes(t, s, want)
	}
	for size := range mostText + 3 {
		if size > 3 && size < mostText-3 && size%97 > 0 {
			continue
		}
		for _, first := range []int{0, 1, size / 2, size - 1, size} {
			if first < 0 || first > min(size, mostText) || size-first > mostText {
				continue
			}
			l := ofValues("cat", txt(xs(first)), txt(strings.Repeat("y", size-first)))
			if size > mostText {
				endsBy(t, l, usual(), 3, api.ErrLarge)
			} else {
				comesTo(t, l, usual(), 3, txt(xs(first)+strings.Repeat("y", size-first)))
				comesTo(t, kind("len", l), usual(), 4, num(size))
			}
		}
	}
	endsBy(t, ofValues("cat", txt(xs(mostText)), txt(xs(mostText))), usual(), 3, api.ErrLarge)
	endsBy(t, ofValues("cat", txt(xs(mostText)), num(1)), usual(), 3, api.ErrType)
	for _, s := range []string{"1", "1:0", "acc"} {
		fails(t, "(len "+s+")", api.ErrType)
	}
}

func TestCut(t *testing.T) {
	for s, want := range map[string]string{
		"(cut val 4 7)": `"old"`, "(cut val 0 3)": `"the"`, "(cut val 14 18)": `"road"`, "(cut val 0 18)": `"the old mill  road"`, "(cut val 18 18)": `""`, "(cut val 0 0)": `""`, "(cut val 17 18)": `"d"`, "(cut val 5 5)": `""`, "(cut val 7 8)": `" "`,
		`(cut "" 0 0)`: `""`, `(cut "a" 0 1)`: `"a"`, `(cut "a" 1 1)`: `""`, `(cut "\00\ff\80" 1 3)`: `"\ff\80"`, `(cut "\c3\a4" 1 2)`: `"\a4"`,
	} {
		comes(t, s, want)
	}
	for _, s := range []string{
		"(cut val -1 3)", "(cut val -1 -1)", "(cut val 0 -1)", "(cut val 0 19)", "(cut val 18 19)", "(cut val 19 19)", "(cut val 19 18)", "(cut val 5 4)", "(cut val 18 0)", "(cut val 1 0)", `(cut "" 0 1)`, `(cut "" 1 1)`, `(cut "" 1 0)`, `(cut "" -1 0)`,
		"(cut val 0 9007199254740992)", "(cut val 9007199254740992 9007199254740992)", "(cut val -9007199254740992 3)", "(cut val 0 4294967298)", "(cut val 4294967296 4294967298)",
	} {
		fails(t, s, api.ErrRange)
	}
	for size := range 6 {
		s := "abcdef"[:size]
		for from := -2; from <= size+2; from++ {
			for to := -2; to <= size+2; to++ {
				l := ofValues("cut", txt(s), num(from), num(to))
				if from >= 0 && to >= from && to <= size {
					comesTo(t, l, usual(), 4, txt(s[from:to]))
				} else {
					endsBy(t, l, usual(), 4, api.ErrRange)
				}
			}
		}
	}
	comesTo(t, ofValues("cut", txt(xs(mostText)), num(0), num(mostText)), usual(), 4, txt(xs(mostText)))
	comesTo(t, ofValues("cut", txt(xs(mostText-1)+"y"), num(mostText-1), num(mostText)), usual(), 4, txt("y"))
	endsBy(t, ofValues("cut", txt(xs(mostText)), num(0), num(mostText+1)), usual(), 4, api.ErrRange)
}

func TestWordsAndWord(t *testing.T) {
	for s, want := range map[string][]string{
		"": nil, " ": nil, "     ": nil, "a": {"a"}, " a": {"a"}, "a ": {"a"}, "   a   ": {"a"}, "a b": {"a", "b"}, "a   b": {"a", "b"}, "  a b  ": {"a", "b"}, "the old mill  road": {"the", "old", "mill", "road"}, " a a a": {"a", "a", "a"},
		// Other bytes than U+0020 are no blanks.
		"a\tb": {"a\tb"}, "\n": {"\n"}, "a\nb c": {"a\nb", "c"}, "a\u00a0b": {"a\u00a0b"}, "\u2003 x": {"\u2003", "x"}, "\x00 \xff": {"\x00", "\xff"}, "\xc2 \xa0": {"\xc2", "\xa0"}, "\x85": {"\x85"}, "\xe3\x80 \x80": {"\xe3\x80", "\x80"},
		strings.Repeat(" ", mostText): nil, xs(mostText): {xs(mostText)}, strings.Repeat(" ", mostText-1) + "x": {"x"}, "x" + strings.Repeat(" ", mostText-1): {"x"},
		strings.Repeat("x ", mostText/2): strings.Split(strings.TrimSpace(strings.Repeat("x ", mostText/2)), " "), strings.Repeat(" y", mostText/2): strings.Split(strings.TrimSpace(strings.Repeat("y ", mostText/2)), " "),
	} {
		comesTo(t, ofValues("words", txt(s)), usual(), 2, num(len(want)))
		for n, word := range want {
			if n < 5 || n > len(want)-5 {
				comesTo(t, ofValues("word", txt(s), num(n)), usual(), 3, txt(word))
			}
		}
		for _, n := range []int{-1, -2, -len(want), -len(want) - 1, len(want), len(want) + 1, 1 << 32, far, -far} {
			if n < 0 || n >= len(want) {
				endsBy(t, ofValues("word", txt(s), num(n)), usual(), 3, api.ErrRange)
			}
		}
	}
}

func TestNum(t *testing.T) {
	for s, want := range map[string]int{"0": 0, "1": 1, "-1": -1, "-12": -12, "10": 10, "907": 907, "9007199254740992": far, "-9007199254740992": -far, "9007199254740991": far - 1, "-9007199254740991": 1 - far} {
		comesTo(t, ofValues("num", txt(s)), usual(), 2, num(want))
		// A byte more, ahead or behind.
		for b := range 256 {
			more := string([]byte{byte(b)})
			for _, s := range []string{more + s, s + more} {
				n, err := strconv.Atoi(s)
				if err == nil && digits.MatchString(s) && n >= -far && n <= far {
					comesTo(t, ofValues("num", txt(s)), usual(), 2, num(n))
				} else {
					endsBy(t, ofValues("num", txt(s)), usual(), 2, api.ErrForm)
				}
			}
		}
	}
	for _, s := range []string{
		"", " ", "-", "--1", "+1", "00", "01", "-0", "-01", "007", "1:2", "0:0", "-3:4", "1:", ":1", `"1"`, `""`, `"a"`, `"`, "a", "1a", "0x1", "1e3", "1.0", "1_0", "1 2", "1\n", "\x001", "９", "(neg 1)", "key",
		"9007199254740993", "-9007199254740993", "9007199254740992:0", "18446744073709551616", "18446744073709551617", "-18446744073709551617", strings.Repeat("9", mostText), "-" + strings.Repeat("9", mostText-1), strings.Repeat("0", mostText), xs(mostText), "1" + strings.Repeat(" ", mostText-1),
	} {
		endsBy(t, ofValues("num", txt(s)), usual(), 2, api.ErrForm)
	}
	for _, n := range numbers() {
		comesTo(t, kind("num", ofValues("text", n)), usual(), 3, n)
	}
}

func TestText(t *testing.T) {
	for s, want := range map[string]string{
		"0": "0", "-17": "-17", "9007199254740992": "9007199254740992", "-9007199254740992": "-9007199254740992", "acc": "40", "i": "0", "1:2": "1:2", "0:0": "0:0", "-16777216:16777216": "-16777216:16777216", `""`: "", `"a"`: "a", `"a\0a\22"`: "a\n\"", "key": "k", `"1:2"`: "1:2",
	} {
		comesTo(t, kind("text", read(s)), usual(), 2, txt(want))
	}
	comesTo(t, ofValues("text", txt(xs(mostText))), usual(), 2, txt(xs(mostText)))
	comesTo(t, ofValues("text", txt(strings.Repeat("\xff", mostText))), usual(), 2, txt(strings.Repeat("\xff", mostText)))
}

func TestPartsOfPoints(t *testing.T) {
	for _, x := range []int{0, 1, -1, 3, farSpot - 1, farSpot, 1 - farSpot, -farSpot} {
		for _, y := range []int{0, 1, -1, -4, farSpot - 1, farSpot, 1 - farSpot, -farSpot} {
			comesTo(t, ofValues("at", num(x), num(y)), usual(), 3, spot(x, y))
			comesTo(t, ofValues("re", spot(x, y)), usual(), 2, num(x))
			comesTo(t, ofValues("im", spot(x, y)), usual(), 2, num(y))
			comesTo(t, ofValues("norm", spot(x, y)), usual(), 2, num(x*x+y*y))
			comesTo(t, ofValues("conj", spot(x, y)), usual(), 2, spot(x, -y))
		}
		for _, y := range []int{farSpot + 1, farSpot + 2, 2 * farSpot, 1 << 32, far, -farSpot - 1, -farSpot - 2, -1 << 32, -far} {
			endsBy(t, ofValues("at", num(x), num(y)), usual(), 3, api.ErrRange)
			endsBy(t, ofValues("at", num(y), num(x)), usual(), 3, api.ErrRange)
			endsBy(t, ofValues("at", num(y), num(y)), usual(), 3, api.ErrRange)
		}
	}
	for _, word := range []string{"re", "im", "norm", "conj"} {
		for _, s := range []string{"0", "1", `""`, `"1:2"`, "key", "acc"} {
			fails(t, "("+word+" "+s+")", api.ErrType)
		}
	}
}

func TestEmit(t *testing.T) {
	for _, v := range few() {
		for _, size := range []int{0, 1, mostKey - 1, mostKey} {
			comesTo(t, ofValues("emit", txt(xs(size)), v), usual(), 3, v, api.Pair{Key: xs(size), Val: v})
		}
		for _, size := range []int{mostKey + 1, mostKey + 2, 256, mostText} {
			endsBy(t, ofValues("emit", txt(xs(size)), v), usual(), 3, api.ErrLarge)
		}
		for _, key := range []api.Value{num(0), num(1), spot(0, 0), spot(1, 2)} {
			endsBy(t, ofValues("emit", key, v), usual(), 3, api.ErrType)
		}
	}
	// Pairs stand in the order in which they are laid down, whether they are alike or not.
	five := []api.Pair{{Key: "b", Val: num(1)}, {Key: "a", Val: num(1)}, {Key: "b", Val: txt("k")}, {Key: "b", Val: txt("k")}, {Key: "", Val: spot(1, 2)}}
	comesTo(t, read(`(then (emit "a" (emit "b" 1)) (then (emit "b" (emit "b" key)) (emit "" 1:2)))`), usual(), 15, spot(1, 2), five...)
	comesTo(t, read(`(emit (emit "a" "b") (emit "c" 3))`), usual(), 7, num(3), api.Pair{Key: "a", Val: txt("b")}, api.Pair{Key: "c", Val: num(3)}, api.Pair{Key: "b", Val: num(3)})
	comesTo(t, read(`(add (emit key 1) (emit key 2))`), usual(), 7, num(3), api.Pair{Key: "k", Val: num(1)}, api.Pair{Key: "k", Val: num(2)})
}

// manyPairs is so many pairs with the key k, and the numbers from 0 on.
func manyPairs(n int) []api.Pair {
	var l []api.Pair
	for i := range n {
		l = append(l, api.Pair{Key: "k", Val: num(i)})
	}
	return l
}

func TestEmitOfManyPairs(t *testing.T) {
	for n := range mostPairs + 1 {
		l := kind("each", leaf(num(n)), read("(emit key i)"))
		comesTo(t, l, usual(), 2+3*n, num(max(0, n-1)), manyPairs(n)...)
	}
	for n := mostPairs + 1; n < mostPairs+4; n++ {
		endsBy(t, kind("each", leaf(num(n)), read("(emit key i)")), usual(), 2+3*(mostPairs+1), api.ErrMany)
	}
	full := "(then (each 64 (emit key i)) "
	steps := 3 + 3*mostPairs
	comesTo(t, read(full+"7)"), usual(), steps+1, num(7), manyPairs(mostPairs)...)
	endsBy(t, read(full+"(emit key 7))"), usual(), steps+3, api.ErrMany)
	endsBy(t, read(full+"(emit key (div 1 0)))"), usual(), steps+5, api.ErrZero)
	endsBy(t, read(full+"(emit 1 7))"), usual(), steps+3, api.ErrType)
	endsBy(t, read(full+"(emit \""+xs(mostKey+1)+"\" 7))"), usual(), steps+3, api.ErrLarge)
	endsBy(t, read(full+"(emit \""+xs(mostKey)+"\" 7))"), usual(), steps+3, api.ErrMany)
	// The pair within is one too many ahead of the one around it.
	endsBy(t, read("(then (each 63 (emit key i)) (emit 1 (emit key (emit key 7))))"), usual(), 3+3*63+7, api.ErrMany)
	comesTo(t, read("(then (each 62 (emit key i)) (emit key (emit key 7)))"), usual(), 3+3*62+5, num(7), append(manyPairs(62), api.Pair{Key: "k", Val: num(7)}, api.Pair{Key: "k", Val: num(7)})...)
}

func TestThen(t *testing.T) {
	for _, v := range few() {
		for _, w := range few() {
			comesTo(t, ofValues("then", v, w), usual(), 3, w)
		}
	}
	comesTo(t, read("(then (emit key 1) (neg 1:1))"), usual(), 6, spot(-1, -1), api.Pair{Key: "k", Val: num(1)})
	endsBy(t, read("(then 2 (div 1 0))"), usual(), 5, api.ErrZero)
	endsBy(t, read("(then (div 1 0) (num \"\"))"), usual(), 4, api.ErrZero)
}

func TestEach(t *testing.T) {
	for s, x := range map[string]struct {
		want  string
		steps int
	}{
		"(each 0 1)": {"0", 2}, "(each 0 \"a\")": {"0", 2}, "(each 0 (div 1 0))": {"0", 2}, "(each 1 \"a\")": {`"a"`, 3}, "(each 1 i)": {"0", 3}, "(each 2 i)": {"1", 4}, "(each 4 (add i i))": {"6", 14}, "(each 3 (text i))": {`"2"`, 8}, "(each 1000 i)": {"999", 1002}, "(each acc i)": {"39", 42},
		// Within another one, in the first part, and behind.
		"(each 3 (each 5 i))": {"4", 2 + 3*7}, "(each 3 (then (each 5 i) i))": {"2", 2 + 3*9}, "(each 3 (add (each 5 i) i))": {"6", 2 + 3*9}, "(each 3 (add i (each 5 i)))": {"6", 2 + 3*9}, "(each 3 (each i 9))": {"9", 2 + 2 + 3 + 4}, "(each 3 (each i i))": {"1", 2 + 2 + 3 + 4}, "(each 1 (each i 9))": {"0", 2 + 2},
		"(each (each 5 i) i)": {"3", 1 + 7 + 4}, "(each (then (each 5 i) (add i 2)) (add i 10))": {"11", 1 + 1 + 7 + 3 + 6}, "(add (each 3 i) i)": {"2", 1 + 5 + 1}, "(then (each 3 i) i)": {"0", 7}, "(add i (each 3 i))": {"2", 7}, "(each 3 (then (each 0 1) i))": {"2", 2 + 3*4}, "(let (each 3 i) (add i it))": {"2", 1 + 5 + 3}, "(if (each 3 i) i 7)": {"0", 1 + 5 + 1},
		"(each 2 (each 3 (each 4 (each 5 i))))": {"4", 2 + 2*(2+3*(2+4*(2+5)))},
	} {
		v, _, _ := value.Parse(x.want)
		comesTo(t, read(s), usual(), x.steps, v)
	}
	for _, n := range []string{"-1", "-2", "-9007199254740992"} {
		endsBy(t, read("(each "+n+" 1)"), usual(), 2, api.ErrRange)
		endsBy(t, read("(each "+n+" (div 1 0))"), usual(), 2, api.ErrRange)
	}
	for _, s := range []string{`""`, `"a"`, `"3"`, "0:0", "3:0", "key", "val"} {
		endsBy(t, read("(each "+s+" 1)"), usual(), 2, api.ErrType)
		endsBy(t, read("(each "+s+" (div 1 0))"), usual(), 2, api.ErrType)
	}
	endsBy(t, read("(each (div 1 0) (num key))"), usual(), 4, api.ErrZero)
	// An error at some time.
	endsBy(t, read("(each 9 (div 1 (sub i 4)))"), usual(), 2+5*5, api.ErrZero)
	endsBy(t, read("(each 9 (each (sub 2 i) 1))"), usual(), 2+(4+2)+(4+1)+4+4, api.ErrRange)
}

func TestLet(t *testing.T) {
	for _, v := range all() {
		comesTo(t, kind("let", leaf(v), read("it")), usual(), 3, v)
		comesTo(t, kind("then", kind("let", leaf(v), leaf(num(1))), read("it")), usual(), 5, num(0))
	}
	for s, want := range map[string]string{
		"(let 5 (mul it it))": "25", "(let 5 1)": "1", "(let 1 (then (let 2 it) it))": "1", "(let 1 (add (let 2 it) it))": "3", "(let 1 (add it (let 2 it)))": "3", "(let 1 (let (add it 1) (add it 10)))": "12", "(let (let 1 (add it 1)) (add it 10))": "12", "(add (let 3 it) it)": "3", "(then (let 3 it) it)": "0", "(let it it)": "0", "(let \"a\" (cat it it))": `"aa"`, "(let 1 (let 2 (let 3 (add it it))))": "6", "(let 1 (add (let 2 (let 3 it)) it))": "4", "(let 1 (add (add (let 2 it) (let 3 it)) it))": "6", "(let i it)": "0", "(let key it)": `"k"`,
	} {
		comes(t, s, want)
	}
	// it is as it was at each time, and i within a let.
	comesTo(t, read("(each 3 (let (add it 1) it))"), usual(), 2+3*5, num(1))
	comesTo(t, read("(let 7 (each 3 (add it i)))"), usual(), 3+1+3*3, num(9))
	comesTo(t, read("(each 3 (let i (each 5 (add (mul it 10) i))))"), usual(), 2+3*(2+2+5*5), num(24))
	comesTo(t, read("(let 7 (then (each 3 (let i it)) it))"), usual(), 3+2+3*3+1, num(7))
	comesTo(t, read("(let 1 (if 0 (let 2 it) it))"), usual(), 5, num(1))
	endsBy(t, read("(let (div 1 0) (num key))"), usual(), 4, api.ErrZero)
	endsBy(t, read("(let 0 (div 1 it))"), usual(), 5, api.ErrZero)
}

func TestNamesComeBackFromDeepWithin(t *testing.T) {
	deep := func(word, first, within string, n int) string {
		return strings.Repeat("("+word+" "+first+" ", n) + within + strings.Repeat(")", n)
	}
	for n := 1; n <= 23; n++ {
		comesTo(t, read("(then "+deep("let", "(add it 1)", "it", n-1)+" it)"), usual(), 1+4*(n-1)+2, num(0))
		comesTo(t, read(deep("let", "(add it 1)", "it", n)), usual(), 4*n+1, num(n))
		comesTo(t, read("(then "+deep("each", "2", "i", min(n, 12))+" i)"), usual(), 1+3<<min(n, 12)-2+1, num(0))
	}
	// Of a let, or an each, in both parts of nodes around others.
	comesTo(t, read("(let 1 (add (let 2 (add (let 4 it) it)) (add it (let 8 (add it (let 16 it))))))"), usual(), 21-2, num(1+2+4+8+16))
	comesTo(t, read("(each 2 (let i (add (mul 100 (each 3 (let i (add i it)))) (add (mul 10 i) it))))"), usual(), 2+2*(2+1+1+1+2+3*5+1+1+1+1+1), num(411))
}

func TestTheExample(t *testing.T) {
	for _, v := range few() {
		env := Env{Val: v}
		comesTo(t, read("(each 3 (emit (text i) val))"), env, 2+3*4, v, api.Pair{Key: "0", Val: v}, api.Pair{Key: "1", Val: v}, api.Pair{Key: "2", Val: v})
	}
}

// 9.1: what is handed in

// wrongs is lists that aren't right.
func wrongs() [][]expr.Node {
	deep := slices.Concat(slices.Repeat(kind("neg"), 25), leaf(num(1)))
	l := [][]expr.Node{
		nil, {}, kind("neg"), kind("add"), ofValues("add", num(1)), ofValues("add", num(1), num(2), num(3)), slices.Concat(leaf(num(1)), leaf(num(2))), ofValues("neg", num(1), num(2)), ofValues("if", num(1), num(2)), ofValues("cut", txt("a"), num(0)), kind("each", leaf(num(0))),
		{{Op: -1}}, {{Op: 30}}, {{Op: 2, V: num(1)}, {}, {}}, {{Op: math.MinInt}}, {{Op: math.MaxInt}}, {{Op: 1, V: num(-1)}}, {{Op: 1, V: num(5)}}, {{Op: 1, V: txt("key")}}, {{Op: 7}, {Op: 30}}, {{Op: 7}, {Op: 1, V: num(5)}},
		leaf(num(far + 1)), leaf(num(-far - 1)), leaf(txt(xs(mostText + 1))), leaf(spot(farSpot+1, 0)), leaf(spot(0, -farSpot-1)), leaf(api.Value{Kind: 3}), leaf(api.Value{N: 1, S: "a"}), ofValues("if", num(1), num(2), num(far+1)),
		deep, slices.Repeat(leaf(num(1)), 401), append(slices.Repeat(kind("then"), 1<<16), leaf(num(1))...),
	}
	return l
}

// wrongValues is values that aren't right.
func wrongValues() []api.Value {
	return []api.Value{
		{N: far + 1}, {N: -far - 1}, {N: math.MinInt}, {N: math.MaxInt}, {S: "a"}, {P: api.Spot{X: 1}}, {N: 1, S: "a"}, {N: 1, P: api.Spot{Y: 1}}, {Kind: 1, N: 1}, {Kind: 1, P: api.Spot{X: 1}}, {Kind: 1, S: xs(mostText + 1)},
		{Kind: 2, N: 1}, {Kind: 2, S: "a"}, {Kind: 2, P: api.Spot{X: farSpot + 1}}, {Kind: 2, P: api.Spot{Y: -farSpot - 1}}, {Kind: 3}, {Kind: -1}, {Kind: 256}, {Kind: math.MaxInt},
	}
}

// refusesArg asks whether Run and Steps refuse what they are handed.
func refusesArg(t *testing.T, l []expr.Node, env Env) {
	t.Helper()
	stepsAre(t, l, env, 0, api.ErrArg)
	for _, fuel := range []int{0, 1, 1000, mostFuel, -1, mostFuel + 1} {
		runs(t, l, env, fuel, Result{}, api.ErrArg)
	}
}

func TestWrongLists(t *testing.T) {
	for _, l := range wrongs() {
		if expr.Right(l) {
			t.Fatalf("it is right: %s", clip(l))
		}
		refusesArg(t, l, usual())
	}
	// What is just right.
	comesTo(t, append(slices.Repeat(kind("neg"), 24), leaf(num(1))...), usual(), 25, num(1))
}

func TestWrongEnv(t *testing.T) {
	for _, s := range []string{"1", "key", "val", "acc", "(div 1 0)", "(if 1 2 val)"} {
		for _, v := range wrongValues() {
			refusesArg(t, read(s), Env{Val: v})
			refusesArg(t, read(s), Env{Acc: v})
			refusesArg(t, read(s), Env{Val: v, Acc: v})
		}
		for _, size := range []int{mostText + 1, mostText + 2, 1 << 16} {
			refusesArg(t, read(s), Env{Key: xs(size)})
		}
	}
	for _, size := range []int{0, 1, mostKey, mostKey + 1, mostText - 1, mostText} {
		comesTo(t, read("key"), Env{Key: xs(size)}, 1, txt(xs(size)))
		comesTo(t, read("(len key)"), Env{Key: xs(size)}, 2, num(size))
	}
	endsBy(t, read("(emit key 1)"), Env{Key: xs(mostKey + 1)}, 3, api.ErrLarge)
	comesTo(t, read("(emit key 1)"), Env{Key: xs(mostKey)}, 3, num(1), api.Pair{Key: xs(mostKey), Val: num(1)})
	endsBy(t, read("(cat key \"a\")"), Env{Key: xs(mostText)}, 3, api.ErrLarge)
}

func TestFuel(t *testing.T) {
	for _, s := range []string{"1", "key", "(add 1 2)", "(div 1 0)", "(each 5 i)"} {
		for _, fuel := range []int{-1, -2, -mostFuel, math.MinInt, mostFuel + 1, mostFuel + 2, 1 << 32, math.MaxInt} {
			runs(t, read(s), usual(), fuel, Result{}, api.ErrArg)
		}
		runs(t, read(s), usual(), 0, Result{}, api.ErrFuel)
	}
	runs(t, read("1"), usual(), 1, Result{V: num(1)}, api.OK)
	runs(t, read("1"), usual(), mostFuel, Result{V: num(1), Left: mostFuel - 1}, api.OK)
	runs(t, read("1"), usual(), mostFuel-1, Result{V: num(1), Left: mostFuel - 2}, api.OK)
}

func TestMostFuel(t *testing.T) {
	comesTo(t, read("(each 99998 1)"), usual(), mostFuel, num(1))
	comesTo(t, read("(each 99998 i)"), usual(), mostFuel, num(99997))
	comesTo(t, read("(each 99997 1)"), usual(), mostFuel-1, num(1))
	comesTo(t, read("(then 1 (each 49998 (neg i)))"), usual(), mostFuel, num(-49997))
	endsBy(t, read("(then (each 99996 1) (div 1 0))"), usual(), mostFuel+1, api.ErrFuel)
	endsBy(t, read("(then (each 99994 1) (div 1 0))"), usual(), mostFuel, api.ErrZero)
	for _, s := range []string{"(each 99999 1)", "(each 9007199254740992 1)", "(each 9007199254740992 (each 9007199254740992 (let i it)))", "(then (each 99998 1) 2)", "(each 50000 (neg i))", "(then (each 99995 1) (div 1 0))"} {
		endsBy(t, read(s), usual(), mostFuel+1, api.ErrFuel)
	}
}

// 9.1: the first error

// faulty is an expression that ends by an error in its last step.
type faulty struct {
	s     string
	e     api.Errno
	steps int
}

func faults() []faulty {
	return []faulty{
		{"(div 1 0)", api.ErrZero, 3}, {"(mod 1:0 0:0)", api.ErrZero, 3}, {"(neg key)", api.ErrType, 2}, {"(less 1 key)", api.ErrType, 3}, {"(add 9007199254740992 1)", api.ErrRange, 3}, {"(word val 4)", api.ErrRange, 3}, {"(each -1 1)", api.ErrRange, 2}, {"(at 16777217 0)", api.ErrRange, 3}, {"(num val)", api.ErrForm, 2}, {"(if key 1 2)", api.ErrType, 2}, {"(emit \"" + xs(65) + "\" 1)", api.ErrLarge, 3}, {"(each 65 (emit key i))", api.ErrMany, 2 + 3*65}, {"(each 100000 1)", api.ErrFuel, mostFuel + 1}, {"(each 3 (div 1 (sub 1 i)))", api.ErrZero, 12},
	}
}

func TestTheFirstErrorEndsAll(t *testing.T) {
	for _, a := range faults() {
		endsBy(t, read(a.s), usual(), a.steps, a.e)
		for _, b := range faults() {
			for _, word := range []string{"add", "sub", "mul", "div", "mod", "less", "same", "max", "min", "cat", "word", "at", "emit", "then", "each", "let"} {
				endsBy(t, read("("+word+" "+a.s+" "+b.s+")"), usual(), min(1+a.steps, mostFuel+1), a.e)
			}
			for _, word := range []string{"if", "cut"} {
				endsBy(t, read("("+word+" "+a.s+" "+b.s+" "+a.s+")"), usual(), min(1+a.steps, mostFuel+1), a.e)
			}
			// Behind parts of the wrong kind, and behind pairs.
			endsBy(t, read("(cut 1:0 key (add "+a.s+" "+b.s+"))"), usual(), min(4+a.steps, mostFuel+1), a.e)
			endsBy(t, read("(cut 1:0 "+a.s+" "+b.s+")"), usual(), min(2+a.steps, mostFuel+1), a.e)
			if a.e != api.ErrMany {
				endsBy(t, read("(then (emit key 1) (let "+a.s+" "+b.s+"))"), usual(), min(5+a.steps, mostFuel+1), a.e)
			}
		}
		for _, word := range []string{"neg", "not", "len", "words", "num", "text", "re", "im", "norm", "conj"} {
			endsBy(t, read("("+word+" "+a.s+")"), usual(), min(1+a.steps, mostFuel+1), a.e)
		}
		endsBy(t, read("(if 1 "+a.s+" 2)"), usual(), min(2+a.steps, mostFuel+1), a.e)
		endsBy(t, read("(if 0 1 "+a.s+")"), usual(), min(2+a.steps, mostFuel+1), a.e)
		endsBy(t, read("(each 5 "+a.s+")"), usual(), min(2+a.steps, mostFuel+1), a.e)
		endsBy(t, read("(let 5 "+a.s+")"), usual(), min(2+a.steps, mostFuel+1), a.e)
		comesTo(t, read("(if 1 2 "+a.s+")"), usual(), 3, num(2))
		comesTo(t, read("(each 0 "+a.s+")"), usual(), 2, num(0))
	}
}

func TestTheLastStepAtEachKindOfNode(t *testing.T) {
	right := map[byte]string{'n': "1", 't': `"7 8"`, 'p': "2:1"}
	for _, word := range allWords() {
		for _, letters := range takes(word) {
			s := "(" + word
			for _, b := range []byte(letters) {
				s += " " + right[b]
			}
			switch {
			case word == "num":
				s = `(num "7"`
			case word == "if":
				s = "(if 1 2 3"
			case word == "cut":
				s = `(cut "abc" 1 2`
			case word == "each" && len(letters) == 1:
				continue
			}
			l := read(s + ")")
			steps := len(l)
			if word == "if" {
				steps--
			}
			want, e := slowRun(l, usual(), mostFuel)
			if e != api.OK {
				t.Fatalf("%s: %d", s, e)
			}
			comesTo(t, l, usual(), steps, want.V, want.Out...)
			for fuel := range steps {
				runs(t, l, usual(), fuel, Result{}, api.ErrFuel)
			}
			// Behind others, the node itself is the one for which no step is left.
			behind := kind("then", leaf(num(1)), l)
			comesTo(t, behind, usual(), 2+steps, want.V, want.Out...)
			for fuel := range 2 + steps {
				runs(t, behind, usual(), fuel, Result{}, api.ErrFuel)
			}
			ahead := kind("then", l, leaf(num(1)))
			comesTo(t, ahead, usual(), 2+steps, num(1), want.Out...)
			for fuel := range 2 + steps {
				runs(t, ahead, usual(), fuel, Result{}, api.ErrFuel)
			}
		}
	}
	for _, s := range []string{"1", `"a"`, "1:2", "key", "val", "acc", "i", "it"} {
		want, _ := slowRun(read(s), usual(), mostFuel)
		comesTo(t, read("(then 1 "+s+")"), usual(), 3, want.V)
		comesTo(t, read("(then "+s+" 1)"), usual(), 3, num(1))
	}
}

// 9.2: Steps

func TestStepsOfKnownLists(t *testing.T) {
	for s, want := range map[string]int{
		"1": 1, "key": 1, "(neg 1)": 2, "(add 1 (neg 2))": 4, "(if 1 2 3)": 3, "(if 0 (add 1 2) 3)": 3, "(if 1 (add 1 2) 3)": 5, "(cut val 0 1)": 4, "(emit key 1)": 3, "(let 1 it)": 3, "(then 1 2)": 3,
		"(each 0 (add 1 2))": 2, "(each 1 (add 1 2))": 5, "(each 3 (emit (text i) val))": 14, "(each (add 1 1) (each 2 i))": 1 + 3 + 2*4,
	} {
		stepsAre(t, read(s), usual(), want, api.OK)
	}
	for _, f := range faults() {
		stepsAre(t, read(f.s), usual(), 0, f.e)
	}
}

// 9.3, and all of it by a second rule

// expression is a list of chance that is likely to come to a value of a kind, and lies within so many others at most.
func (c *chance) expression(deep int, letter byte) []expr.Node {
	if c.below(25) == 0 {
		letter = "ntp"[c.below(3)]
	}
	if deep == 0 || c.below(5) == 0 {
		return c.leaf(letter)
	}
	x := func(letter byte) []expr.Node { return c.expression(deep-1, letter) }
	other := "ntp"[c.below(3)]
	switch c.below(12) {
	case 0:
		return kind("if", x('n'), x(letter), x(letter))
	case 1:
		return kind("then", x(other), x(letter))
	case 2:
		return kind("each", kind("mod", x('n'), leaf(num(4))), x(letter))
	case 3:
		return kind("each", leaf(num(c.below(4))), x(letter))
	case 4:
		return kind("let", x(other), x(letter))
	case 5:
		return kind("emit", x('t'), x(letter))
	case 6:
		return kind(one(c, []string{"max", "min"}), x(letter), x(letter))
	}
	switch letter {
	case 'n':
		switch c.below(8) {
		case 0:
			return kind(one(c, []string{"less", "same"}), x(other), x(other))
		case 1:
			return kind(one(c, []string{"neg", "not"}), x('n'))
		case 2:
			return kind(one(c, []string{"len", "words"}), x('t'))
		case 3:
			return kind("num", kind("text", x('n')))
		case 4:
			return kind(one(c, []string{"re", "im", "norm"}), x('p'))
		}
		return kind(one(c, []string{"add", "sub", "mul", "div", "mod"}), x('n'), x('n'))
	case 't':
		switch c.below(4) {
		case 0:
			return kind("cat", x('t'), x('t'))
		case 1:
			return kind("cut", x('t'), leaf(num(c.below(2))), leaf(num(1+c.below(3))))
		case 2:
			return kind("word", x('t'), leaf(num(c.below(3))))
		}
		return kind("text", x(other))
	}
	switch c.below(4) {
	case 0:
		return kind("at", x('n'), x('n'))
	case 1:
		return kind(one(c, []string{"conj", "neg"}), x('p'))
	}
	return kind(one(c, []string{"add", "sub", "mul", "div", "mod"}), x('p'), x('p'))
}

// leaf is a value or a name of chance, likely of a kind.
func (c *chance) leaf(letter byte) []expr.Node {
	switch letter {
	case 'n':
		return one(c, [][]expr.Node{leaf(num(c.below(9) - 2)), leaf(one(c, numbers())), named(2), named(3), named(4)})
	case 't':
		return one(c, [][]expr.Node{leaf(txt("a b")), leaf(one(c, texts()[:20])), named(0), named(1), named(4)})
	}
	return one(c, [][]expr.Node{leaf(spot(c.below(9)-4, c.below(9)-4)), leaf(one(c, spots())), named(4)})
}

// manyLists is right lists of chance.
func manyLists(n int) [][]expr.Node {
	var l [][]expr.Node
	var c chance
	for len(l) < n {
		if x := c.expression(1+c.below(6), "ntp"[c.below(3)]); expr.Right(x) {
			l = append(l, x)
		}
	}
	return l
}

func TestListsOfChanceAreAsTheChapterSays(t *testing.T) {
	var c chance
	right := 0
	for _, l := range manyLists(40000) {
		env := Env{Key: one(&c, texts()).S, Val: one(&c, texts()), Acc: one(&c, numbers())}
		if c.below(8) == 0 {
			env.Val, env.Acc = one(&c, all()), one(&c, all())
		}
		isAsTheChapterSays(t, l, env, 3000)
		isAsTheChapterSays(t, l, env, c.below(60))
		if _, e := Run(l, env, 3000); e == api.OK {
			right++
		}
	}
	if right < 10000 {
		t.Errorf("no more than %d lists come to a value", right)
	}
}

func TestAllShortListsAreAsTheChapterSays(t *testing.T) {
	some := slices.Concat(leaf(num(2)), leaf(txt("b")), named(3), named(4), kind("neg"), kind("add"), kind("emit"), kind("then"), kind("each"), kind("let"), kind("if"))
	short := [][]expr.Node{{}}
	for range 5 {
		var longer [][]expr.Node
		for _, l := range short {
			for _, n := range some {
				longer = append(longer, append(slices.Clip(l), n))
			}
		}
		short = longer
		for _, l := range short {
			if expr.Right(l) {
				isAsTheChapterSays(t, l, usual(), mostFuel)
				for fuel := range 8 {
					isAsTheChapterSays(t, l, usual(), fuel)
				}
			}
		}
	}
}

func TestJustAsManyStepsAreEnough(t *testing.T) {
	for _, l := range manyLists(4000) {
		want, e := Run(l, usual(), mostFuel)
		if e != api.OK {
			stepsAre(t, l, usual(), 0, e)
			continue
		}
		steps := mostFuel - want.Left
		stepsAre(t, l, usual(), steps, api.OK)
		for fuel := range min(steps, 300) {
			runs(t, l, usual(), fuel, Result{}, api.ErrFuel)
		}
		runs(t, l, usual(), steps-1, Result{}, api.ErrFuel)
		for _, more := range []int{0, 1, 2, 17, want.Left / 2, want.Left} {
			if more <= want.Left {
				runs(t, l, usual(), steps+more, Result{V: want.V, Out: want.Out, Left: more}, api.OK)
			}
		}
	}
}

func TestFromSomeFuelOnItIsTheSameError(t *testing.T) {
	for _, l := range manyLists(4000) {
		_, e := Run(l, usual(), mostFuel)
		if e == api.OK || e == api.ErrFuel {
			continue
		}
		met := false
		for fuel := range 300 {
			_, f := Run(l, usual(), fuel)
			if f != e && (met || f != api.ErrFuel) {
				t.Errorf("Run of %s with %d steps ends by %d, with most of them by %d", clip(l), fuel, f, e)
			}
			met = met || f == e
		}
	}
}

// Rules 2, 4 and 6: nothing beside an error, memory, and what calls hang on

func TestNothingBesideAnError(t *testing.T) {
	for _, s := range []string{"(then (emit key 1) (div 1 0))", "(each 65 (emit key i))", "(then (emit key 1) (each 100000 1))", "(emit key (add 1 key))", "(same (emit key 1) (not key))", "(less (emit key 1) val)", "(text (not val))", "(not val)", "(max 1 val)"} {
		r, e := Run(read(s), usual(), mostFuel)
		if e == api.OK || r.V != (api.Value{}) || len(r.Out) != 0 || r.Left != 0 {
			t.Errorf("Run of %s = %s, %d", s, clip(r), e)
		}
		if n, f := Steps(read(s), usual()); n != 0 || f != e {
			t.Errorf("Steps of %s = %d, %d", s, n, f)
		}
	}
}

// shares tells whether two texts have a byte of memory in common.
func shares(a, b string) bool {
	if a == "" || b == "" {
		return false
	}
	from, other := uintptr(unsafe.Pointer(unsafe.StringData(a))), uintptr(unsafe.Pointer(unsafe.StringData(b)))
	return from < other+uintptr(len(b)) && other < from+uintptr(len(a))
}

// textsOf is all texts of an answer.
func textsOf(r Result) []string {
	l := []string{r.V.S}
	for _, p := range r.Out {
		l = append(l, p.Key, p.Val.S)
	}
	return l
}

func TestWhatIsHandedOutIsNew(t *testing.T) {
	env := Env{Key: "a key of some bytes", Val: txt("a value, which is a text of some bytes"), Acc: txt("another one")}
	own := "a text of the list itself"
	for _, s := range []string{
		"val", "key", "acc", `"` + own + `"`, "(cut val 3 9)", "(word val 2)", "(text val)", "(max key val)", "(let val it)", "(if 1 val key)", "(cat val \"\")", "(cat \"\" val)", "(emit key val)", "(emit (cut key 2 9) (cut val 2 9))", "(emit val val)",
		"(then (emit key val) (then (emit key val) val))", "(each 3 (emit key (emit \"" + own + "\" val)))", "(each 3 (emit (text i) val))", `(emit "` + own + `" "` + own + `")`, "(let (cat key key) (emit it (emit it it)))",
	} {
		l := read(s)
		a, e := Run(l, env, mostFuel)
		b, f := Run(l, env, mostFuel)
		if e != api.OK || f != api.OK || !alike(a, b) {
			t.Fatalf("Run of %s = %s, %d; %s, %d", s, clip(a), e, clip(b), f)
		}
		given := []string{env.Key, env.Val.S, env.Acc.S}
		for _, n := range l {
			given = append(given, n.V.S)
		}
		for i, x := range textsOf(a) {
			for j, y := range textsOf(a) {
				if i != j && shares(x, y) {
					t.Errorf("Run of %s: the texts %d and %d of the answer share memory", s, i, j)
				}
			}
			for _, y := range slices.Concat(given, textsOf(b)) {
				if shares(x, y) {
					t.Errorf("Run of %s: the text %d of the answer shares memory with what was handed in, or with a later answer", s, i)
				}
			}
		}
		// Spare room is the answer's own too.
		spare := a.Out[:cap(a.Out)]
		for i := range spare {
			spare[i] = api.Pair{Key: "other", Val: num(99)}
		}
		runs(t, l, env, mostFuel, b, api.OK)
	}
}

func TestWhatIsHandedInIsNotChanged(t *testing.T) {
	for _, l := range append(manyLists(2000), wrongs()...) {
		spare := []expr.Node{{Op: 77}, {Op: 78}}
		room := slices.Concat(l, spare)
		given := room[:len(l)]
		Run(given, usual(), 1000)
		Steps(given, usual())
		if !slices.Equal(room, slices.Concat(l, spare)) {
			t.Errorf("%s was changed", clip(l))
		}
	}
}

func TestAnAnswerDoesNotFollowItsArguments(t *testing.T) {
	key, val := []byte("some key"), []byte("some value")
	env := Env{Key: unsafe.String(&key[0], len(key)), Val: txt(unsafe.String(&val[0], len(val)))}
	l := read("(then (emit key val) (cut val 5 10))")
	r, _ := Run(l, env, mostFuel)
	copy(key, "XXXXXXXX")
	copy(val, "XXXXXXXXXX")
	clear(l)
	if !alike(r, Result{V: txt("value"), Out: []api.Pair{{Key: "some key", Val: txt("some value")}}, Left: mostFuel - 8}) {
		t.Errorf("Run = %s", clip(r))
	}
}

func TestCallsDoNotHangOnEarlierOnes(t *testing.T) {
	for range 3 {
		// Calls that end by an error within a let and an each leave nothing behind.
		endsBy(t, read("(let 5 (each 3 (then (emit key it) (div 1 (sub 1 i)))))"), usual(), 3+1+2*9, api.ErrZero)
		comesTo(t, read("(add i it)"), usual(), 3, num(0))
		comesTo(t, read("(emit key it)"), usual(), 3, num(0), api.Pair{Key: "k"})
		endsBy(t, read("(each 65 (emit key i))"), usual(), 2+3*65, api.ErrMany)
		comesTo(t, read("(each 64 (emit key i))"), usual(), 2+3*64, num(63), manyPairs(64)...)
		runs(t, read("(add 1 2)"), usual(), 2, Result{}, api.ErrFuel)
		runs(t, read("(add 1 2)"), usual(), 3, Result{V: num(3)}, api.OK)
	}
}

func TestCallsAtOneTime(t *testing.T) {
	l := read("(each 9 (let (mul i i) (emit (text i) (add it acc))))")
	done := make(chan Result)
	for n := range 8 {
		go func() {
			r, _ := Run(l, Env{Acc: num(n)}, mostFuel)
			done <- r
		}()
	}
	for range 8 {
		r := <-done
		n := r.V.N - 64
		want, _ := slowRun(l, Env{Acc: num(n)}, mostFuel)
		if n < 0 || n > 7 || !alike(r, want) {
			t.Errorf("Run = %s", clip(r))
		}
	}
}
