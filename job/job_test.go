package job

import (
	"fmt"
	"hash/crc32"
	"math"
	"math/big"
	"regexp"
	"slices"
	"strconv"
	"strings"
	"testing"
	"unsafe"

	"stook/api"
	"stook/coder"
	"stook/eval"
	"stook/expr"
	"stook/gauss"
	"stook/value"
)

const (
	// mostNodes is how many nodes a right list may have, mostText how long a text may be, mostKey how long a key, mostFuel how many steps a call may take.
	mostNodes = 400
	mostText  = 4096
	mostKey   = 64
	mostFuel  = 100000
)

// words is the job that counts words, as it is written.
const words = "job words\ntasks 2\nparts 3\ncode 2 3\nfuel 100\nmap (each (words val) (emit (word val i) 1))\nfold sum\ncombine yes\n"

func num(n int) api.Value     { return api.Value{N: n} }
func txt(s string) api.Value  { return api.Value{Kind: 1, S: s} }
func spot(x, y int) api.Value { return api.Value{Kind: 2, P: api.Spot{X: x, Y: y}} }

// read is the expression that a text is.
func read(s string) []expr.Node {
	l, _, e := expr.Parse(s)
	if e != api.OK {
		panic(s)
	}
	return l
}

// usual is a right job with a fold, plain one with a Reduce.
func usual() Job {
	return Job{Name: "words", Tasks: 2, Parts: 3, K: 2, N: 3, Fuel: 100, Map: read("(each (words val) (emit (word val i) 1))"), Fold: "sum", Combine: true}
}

func plain() Job {
	return Job{Name: "a", Tasks: 1, Parts: 1, K: 1, N: 1, Fuel: 1, Map: read("val"), By: read("(len key)"), Reduce: read("(add acc val)")}
}

// with is a job with something else in it.
func with(j Job, change func(*Job)) Job {
	change(&j)
	return j
}

// tree is a right list of so many nodes, hardly any of them deep.
func tree(size int) []expr.Node {
	switch size {
	case 1:
		return read("key")
	case 2:
		return read("(neg 5)")
	}
	left := (size - 1) / 2
	return slices.Concat([]expr.Node{{Op: 2}}, tree(left), tree(size-1-left))
}

// deep is a text within so many neg.
func deep(n int, s string) string { return strings.Repeat("(neg ", n) + s + strings.Repeat(")", n) }

// text is a list that is one text of so many x.
func text(size int) []expr.Node { return []expr.Node{{V: txt(strings.Repeat("x", size))}} }

// wrongLists is lists that aren't right, and aren't empty.
func wrongLists() [][]expr.Node {
	return [][]expr.Node{
		{{Op: 7}}, {{Op: 2}, {}}, {{}, {}}, {{Op: 30}}, {{Op: -1}}, {{Op: 1, V: num(5)}}, {{Op: 1, V: num(-1)}}, {{V: num(1<<53 + 1)}}, {{V: api.Value{S: "a"}}},
		{{Op: 7, V: num(1)}, {}}, tree(mostNodes + 1), slices.Concat(slices.Repeat([]expr.Node{{Op: 7}}, 25), read("key")), slices.Repeat([]expr.Node{{Op: 7}}, 1<<16), slices.Repeat([]expr.Node{{}}, 1<<16),
		text(4097), read("(add acc val)")[:2], append(read("val"), read("acc")...), append(read("(emit key 1)"), expr.Node{Op: 26}),
	}
}

// alike tells whether two jobs are.
func alike(a, b Job) bool {
	return a.Name == b.Name && a.Tasks == b.Tasks && a.Parts == b.Parts && a.K == b.K && a.N == b.N && a.Fuel == b.Fuel && a.Fold == b.Fold && a.Combine == b.Combine &&
		slices.Equal(a.Map, b.Map) && slices.Equal(a.By, b.By) && slices.Equal(a.Reduce, b.Reduce)
}

// chance is a row of numbers that looks like chance and is the same each time.
type chance uint32

func (c *chance) below(n int) int {
	*c = *c*1664525 + 1013904223
	return int(*c>>16) % n
}

// oneOf is one of these by chance.
func oneOf[T any](c *chance, l ...T) T { return l[c.below(len(l))] }

// clip is something as a fault tells it.
func clip(v any) string {
	s := strconv.QuoteToASCII(fmt.Sprint(v))
	if len(s) > 400 {
		return s[:200] + ".." + s[len(s)-200:]
	}
	return s
}

// The second rule: what the chapter says, in another way

// decimals is how a number in decimal is written.
const decimals = `(0|-?[1-9][0-9]*)`

var (
	rightNames = regexp.MustCompile(`\A[a-z0-9]{1,16}\z`)
	// shapes is how lines are written, by their first words; of those with an expression it is asked by layer 8.
	shapes = map[string]*regexp.Regexp{
		"job":     regexp.MustCompile(`\Ajob ([^ \n]+)\n\z`),
		"tasks":   regexp.MustCompile(`\Atasks ` + decimals + `\n\z`),
		"parts":   regexp.MustCompile(`\Aparts ` + decimals + `\n\z`),
		"code":    regexp.MustCompile(`\Acode ` + decimals + ` ` + decimals + `\n\z`),
		"fuel":    regexp.MustCompile(`\Afuel ` + decimals + `\n\z`),
		"map":     regexp.MustCompile(`\Amap ([^\n]+)\n\z`),
		"by":      regexp.MustCompile(`\Aby ([^\n]+)\n\z`),
		"fold":    regexp.MustCompile(`\Afold ([^ \n]+)\n\z`),
		"reduce":  regexp.MustCompile(`\Areduce ([^\n]+)\n\z`),
		"combine": regexp.MustCompile(`\Acombine (yes|no)\n\z`),
	}
)

// uses tells which words a right list has, beside values.
func uses(l []expr.Node) map[string]bool {
	has := map[string]bool{}
	for _, n := range l {
		if n.Op == 1 {
			has[strings.Fields("key val acc i it")[n.V.N]] = true
		}
		if word, _, ok := expr.Parts(n.Op); ok {
			has[word] = true
		}
	}
	return has
}

// slowRight is what Right answers as the chapter says it.
func slowRight(j Job) api.Errno {
	if !rightNames.MatchString(j.Name) {
		return api.ErrName
	}
	for n, most := range map[*int]int{&j.Tasks: 16, &j.Parts: 16, &j.Fuel: mostFuel} {
		if *n < 1 || *n > most {
			return api.ErrRange
		}
	}
	if _, e := coder.New(j.K, j.N); e != api.OK {
		return api.ErrRange
	}
	hasFold, hasReduce := j.Fold != "", len(j.Reduce) > 0
	if !expr.Right(j.Map) || len(j.By) > 0 && !expr.Right(j.By) || hasReduce && !expr.Right(j.Reduce) {
		return api.ErrArg
	}
	if hasFold == hasReduce || hasFold && !slices.Contains([]string{"sum", "max", "min", "gcd"}, j.Fold) {
		return api.ErrArg
	}
	mapUses, byUses, reduceUses := uses(j.Map), uses(j.By), uses(j.Reduce)
	if mapUses["acc"] || byUses["val"] || byUses["acc"] || byUses["i"] || byUses["it"] || byUses["emit"] || reduceUses["emit"] {
		return api.ErrWord
	}
	if j.Combine && !hasFold {
		return api.ErrState
	}
	return api.OK
}

// slowText is a job as it is written, however long; of lists that aren't right nothing stands.
func slowText(j Job) string {
	written := func(l []expr.Node) string {
		s, e := expr.Write(l)
		if e == api.ErrLarge {
			return strings.Repeat("x", mostText)
		}
		return s
	}
	by, last, combine := "", "fold "+j.Fold, map[bool]string{false: "no", true: "yes"}[j.Combine]
	if len(j.By) > 0 {
		by = "by " + written(j.By) + "\n"
	}
	if j.Fold == "" {
		last = "reduce " + written(j.Reduce)
	}
	return fmt.Sprintf("job %s\ntasks %d\nparts %d\ncode %d %d\nfuel %d\nmap %s\n%s%s\ncombine %s\n", j.Name, j.Tasks, j.Parts, j.K, j.N, j.Fuel, written(j.Map), by, last, combine)
}

// far is the number that a text in decimal is; of those out of an int's bounds one at these.
func far(s string) int {
	n, _ := new(big.Int).SetString(s, 10)
	if n.IsInt64() {
		return int(n.Int64())
	}
	return n.Sign() * math.MaxInt
}

// slowParse is what Parse answers as the chapter says it.
func slowParse(s string) (Job, int, api.Errno) {
	if len(s) > mostText {
		return Job{}, 0, api.ErrLarge
	}
	found := map[string][]string{}
	at, lines := 0, strings.SplitAfter(s, "\n")
	for _, may := range []string{"job", "tasks", "parts", "code", "fuel", "map", "by fold reduce", "fold reduce", "combine"} {
		if may == "fold reduce" && found["by"] == nil {
			continue
		}
		line := lines[0]
		if !strings.HasSuffix(line, "\n") {
			return Job{}, at, api.ErrShort
		}
		word := regexp.MustCompile(`\A[^ \n]*`).FindString(line)
		if word == "" || !slices.Contains(strings.Fields(may), word) {
			return Job{}, at, api.ErrWord
		}
		found[word] = shapes[word].FindStringSubmatch(line)
		if found[word] == nil {
			return Job{}, at, api.ErrForm
		}
		if word == "map" || word == "by" || word == "reduce" {
			l, _, e := expr.Parse(found[word][1])
			if again, f := expr.Write(l); e != api.OK || f != api.OK || again != found[word][1] {
				return Job{}, at, api.ErrForm
			}
		}
		at, lines = at+len(line), lines[1:]
	}
	if at < len(s) {
		return Job{}, at, api.ErrWord
	}
	j := Job{Name: found["job"][1], Tasks: far(found["tasks"][1]), Parts: far(found["parts"][1]), K: far(found["code"][1]), N: far(found["code"][2]), Fuel: far(found["fuel"][1]), Map: read(found["map"][1]), Combine: found["combine"][1] == "yes"}
	if l := found["by"]; l != nil {
		j.By = read(l[1])
	}
	if l := found["fold"]; l != nil {
		j.Fold = l[1]
	} else {
		j.Reduce = read(found["reduce"][1])
	}
	if e := slowRight(j); e != api.OK {
		return Job{}, 0, e
	}
	return j, 0, api.OK
}

// rightIs asks whether Right tells this of a job, and whether the second rule does.
func rightIs(t *testing.T, j Job, want api.Errno) {
	t.Helper()
	if e := Right(j); e != want {
		t.Errorf("Right of %s = %d, want %d", clip(j), e, want)
	}
	if e := slowRight(j); e != want {
		t.Errorf("by the second rule Right of %s is %d, want %d", clip(j), e, want)
	}
	if want != api.OK {
		if s, e := Write(j); s != "" || e != want {
			t.Errorf("Write of %s = %s, %d, want %d", clip(j), clip(s), e, want)
		}
		if n, e := Part(j, "k"); n != 0 || e != want {
			t.Errorf("Part of %s = %d, %d, want %d", clip(j), n, e, want)
		}
	}
}

// writes asks whether a job is written so, and is read as it was.
func writes(t *testing.T, j Job, want string) {
	t.Helper()
	if s, e := Write(j); s != want || e != api.OK {
		t.Errorf("Write of %s = %s, %d, want %s", clip(j), clip(s), e, clip(want))
	}
	parses(t, want, j)
}

// parses asks whether Parse reads this job.
func parses(t *testing.T, s string, want Job) {
	t.Helper()
	if j, at, e := Parse(s); !alike(j, want) || at != 0 || e != api.OK {
		t.Errorf("Parse of %s = %s, %d, %d, want %s", clip(s), clip(j), at, e, clip(want))
	}
}

// refuses asks whether Parse tells this fault, and whether the second rule does.
func refuses(t *testing.T, s string, at int, e api.Errno) {
	t.Helper()
	if j, gotAt, got := Parse(s); !alike(j, Job{}) || gotAt != at || got != e {
		t.Errorf("Parse of %s = %s, %d, %d, want nothing, %d, %d", clip(s), clip(j), gotAt, got, at, e)
	}
	if _, gotAt, got := slowParse(s); gotAt != at || got != e {
		t.Errorf("by the second rule Parse of %s is %d, %d, want %d, %d", clip(s), gotAt, got, at, e)
	}
}

// parsesAsTheChapterSays holds Parse against slowParse.
func parsesAsTheChapterSays(t *testing.T, s string) api.Errno {
	t.Helper()
	want, wantAt, wantError := slowParse(s)
	j, at, e := Parse(s)
	if !alike(j, want) || at != wantAt || e != wantError {
		t.Errorf("Parse of %s = %s, %d, %d, want %s, %d, %d", clip(s), clip(j), at, e, clip(want), wantAt, wantError)
	}
	if again, f := Write(j); e == api.OK && (again != s || f != api.OK) {
		t.Errorf("Parse reads %s, but it is written %s, %d", clip(s), clip(again), f)
	}
	return e
}

// rights is right jobs that are written in MaxText bytes or fewer: of each kind, around all edges, and some of chance.
func rights() []Job {
	l := []Job{usual(), plain()}
	for _, j := range []Job{usual(), plain()} {
		for n := 1; n <= 16; n++ {
			l = append(l, with(j, func(j *Job) { j.Tasks = n }), with(j, func(j *Job) { j.Parts = n }), with(j, func(j *Job) { j.Name = strings.Repeat("z", n) }))
			for k := 1; k <= n; k++ {
				l = append(l, with(j, func(j *Job) { j.K, j.N = k, n }))
			}
		}
		for _, n := range []int{1, 2, 9, 10, 11, 99, 100, 9999, 10000, 99999, mostFuel} {
			l = append(l, with(j, func(j *Job) { j.Fuel = n }))
		}
		l = append(l, with(j, func(j *Job) { j.Map = tree(mostNodes) }), with(j, func(j *Job) { j.By = tree(mostNodes) }), with(j, func(j *Job) { j.By = nil }), with(j, func(j *Job) { j.By = read("key") }), with(j, func(j *Job) { j.Map = read(`"a b\0ajob c"`) }))
	}
	for _, word := range []string{"sum", "max", "min", "gcd"} {
		l = append(l, with(usual(), func(j *Job) { j.Fold = word }), with(usual(), func(j *Job) { j.Fold, j.Combine = word, false }), with(usual(), func(j *Job) { j.Fold, j.By = word, read("7") }))
	}
	l = append(l, with(plain(), func(j *Job) { j.Reduce = tree(mostNodes) }), with(plain(), func(j *Job) { j.Reduce = read("(each 2 (let acc (cat it (text i))))") }))
	var ch chance
	for range 3000 {
		if j := ch.job(); slowRight(j) == api.OK {
			l = append(l, j)
		}
	}
	return l
}

// job is a job of chance, most of whose parts are right.
func (c *chance) job() Job {
	j := Job{Name: oneOf(c, "a", "0", "words", "abcdefghijklmnop", "0123456789abcdef"), Tasks: 1 + c.below(16), Parts: 1 + c.below(16), N: 1 + c.below(16), Fuel: oneOf(c, 1, 7, 100, 4096, mostFuel)}
	j.K = 1 + c.below(j.N)
	j.Map = read(oneOf(c, "val", "0", "(emit key val)", "(each (words val) (emit (word val i) 1))", `(then (emit "a" 1) (let val (emit (text it) 3:-4)))`, "(if (len val) (emit val key) (div 1 0))"))
	if c.below(2) == 0 {
		j.By = read(oneOf(c, "key", "0", "(len key)", "(if (len key) (num key) -1)", `(len (cat key "val"))`))
	}
	if c.below(2) == 0 {
		j.Fold, j.Combine = oneOf(c, "sum", "max", "min", "gcd"), c.below(2) == 0
	} else {
		j.Reduce = read(oneOf(c, "acc", "(add acc val)", "(max acc (let val (add it 1)))", "(each 3 (cat key (text i)))"))
	}
	return j
}

// spoilt is a job of chance, of which something may be wrong.
func (c *chance) spoilt() Job {
	j := c.job()
	for range c.below(4) {
		switch c.below(12) {
		case 0:
			j.Name = oneOf(c, "", "A", "a b", "abcdefghijklmnopq", "\xff", "a\n")
		case 1:
			j.Tasks = oneOf(c, 0, -1, 17, math.MaxInt, math.MinInt)
		case 2:
			j.Parts = oneOf(c, 0, -1, 17, math.MaxInt, math.MinInt)
		case 3:
			j.K = oneOf(c, 0, -1, 17, j.N+1, math.MinInt)
		case 4:
			j.N = oneOf(c, 0, -1, 17, j.K-1, math.MaxInt)
		case 5:
			j.Fuel = oneOf(c, 0, -1, mostFuel+1, math.MaxInt, math.MinInt)
		case 6:
			j.Map = oneOf(c, nil, []expr.Node{}, []expr.Node{{Op: 2}}, read("acc"), read("(emit (text acc) 1)"))
		case 7:
			j.By = oneOf(c, []expr.Node{{Op: 2}}, read("val"), read("(neg (neg i))"), read("(let key it)"), read("(emit key 1)"), read("acc"))
		case 8:
			j.Reduce = oneOf(c, nil, []expr.Node{{Op: 2}}, read("(emit key 1)"), read("(neg (emit key 1))"), read("val"))
		case 9:
			j.Fold = oneOf(c, "", "sum", "add", "Sum", "gcd ")
		case 10:
			j.Combine = true
		case 11:
			j.Fold, j.Reduce = "", nil
		}
	}
	return j
}

// 10.1: Right

func TestRightOfRightJobs(t *testing.T) {
	l := rights()
	if len(l) < 1000 {
		t.Fatalf("no more than %d jobs", len(l))
	}
	for _, j := range l {
		rightIs(t, j, api.OK)
	}
}

func TestRightOfNames(t *testing.T) {
	letters := "abcdefghijklmnopqrstuvwxyz0123456789"
	for size := range 40 {
		want := api.ErrName
		if size >= 1 && size <= 16 {
			want = api.OK
		}
		rightIs(t, with(usual(), func(j *Job) { j.Name = letters[:min(size, 36)] + strings.Repeat("9", max(0, size-36)) }), want)
		rightIs(t, with(plain(), func(j *Job) { j.Name = strings.Repeat("0", size) }), want)
	}
	for b := range 256 {
		want := api.ErrName
		if strings.IndexByte(letters, byte(b)) >= 0 {
			want = api.OK
		}
		// The byte stands alone, and at each place of a name.
		one := string([]byte{byte(b)})
		rightIs(t, with(usual(), func(j *Job) { j.Name = one }), want)
		for at := range 16 {
			rightIs(t, with(usual(), func(j *Job) { j.Name = letters[:at] + one + letters[at:15] }), want)
		}
	}
	for _, s := range []string{"A", "Words", "worDs", "wordS", "a b", " a", "a ", " ", "ä", "é", "a\x80", "\xff", "a\n", "\n", "a-b", "a_b", "a.b", "\x00", "１", "abcdefghijklmnopq", "ABCDEFGHIJKLMNOPQ", strings.Repeat("a", 1<<16)} {
		rightIs(t, with(usual(), func(j *Job) { j.Name = s }), api.ErrName)
	}
}

func TestRightOfTasksAndParts(t *testing.T) {
	l := []int{math.MinInt, math.MinInt + 1, -1 << 32, 1 << 32, 1<<32 + 1, 1<<53 + 1, math.MaxInt, 255, 256, 257}
	for n := -20; n <= 40; n++ {
		l = append(l, n)
	}
	for _, n := range l {
		want := api.ErrRange
		if n >= 1 && n <= 16 {
			want = api.OK
		}
		rightIs(t, with(usual(), func(j *Job) { j.Tasks = n }), want)
		rightIs(t, with(usual(), func(j *Job) { j.Parts = n }), want)
		rightIs(t, with(plain(), func(j *Job) { j.Tasks, j.Parts = n, n }), want)
	}
}

func TestRightOfCodes(t *testing.T) {
	l := []int{math.MinInt, -1 << 32, -17, -16, -2, -1, 0, 17, 18, 32, 255, 256, 257, 1 << 32, 1<<32 + 1, math.MaxInt - 1, math.MaxInt}
	for n := 1; n <= 16; n++ {
		l = append(l, n)
	}
	right := 0
	for _, k := range l {
		for _, n := range l {
			want := api.ErrRange
			if 1 <= k && k <= n && n <= 16 {
				want = api.OK
				right++
			}
			rightIs(t, with(usual(), func(j *Job) { j.K, j.N = k, n }), want)
		}
	}
	if right != 136 {
		t.Errorf("%d codes were right", right)
	}
}

func TestRightOfFuel(t *testing.T) {
	for n, want := range map[int]api.Errno{math.MinInt: api.ErrRange, -mostFuel: api.ErrRange, -1: api.ErrRange, 0: api.ErrRange, 1: api.OK, 2: api.OK, 50000: api.OK, mostFuel - 1: api.OK, mostFuel: api.OK, mostFuel + 1: api.ErrRange, 1 << 32: api.ErrRange, 1<<32 + 1: api.ErrRange, math.MaxInt: api.ErrRange} {
		rightIs(t, with(usual(), func(j *Job) { j.Fuel = n }), want)
		rightIs(t, with(plain(), func(j *Job) { j.Fuel = n }), want)
	}
}

func TestRightOfExpressions(t *testing.T) {
	for _, j := range []Job{usual(), plain()} {
		// Only Map has to be there.
		rightIs(t, with(j, func(j *Job) { j.Map = nil }), api.ErrArg)
		rightIs(t, with(j, func(j *Job) { j.Map = []expr.Node{} }), api.ErrArg)
		rightIs(t, with(j, func(j *Job) { j.Map = make([]expr.Node, 0, 9) }), api.ErrArg)
		rightIs(t, with(j, func(j *Job) { j.By = nil }), api.OK)
		rightIs(t, with(j, func(j *Job) { j.By = []expr.Node{} }), api.OK)
		rightIs(t, with(j, func(j *Job) { j.By = read("7")[:0] }), api.OK)
		for size := mostNodes - 2; size <= mostNodes+2; size++ {
			want := api.OK
			if size > mostNodes {
				want = api.ErrArg
			}
			rightIs(t, with(j, func(j *Job) { j.Map = tree(size) }), want)
			rightIs(t, with(j, func(j *Job) { j.By = tree(size) }), want)
			rightIs(t, with(j, func(j *Job) { j.Reduce, j.Fold, j.Combine = tree(size), "", false }), want)
		}
		for _, l := range wrongLists() {
			rightIs(t, with(j, func(j *Job) { j.Map = l }), api.ErrArg)
			rightIs(t, with(j, func(j *Job) { j.By = l }), api.ErrArg)
			rightIs(t, with(j, func(j *Job) { j.Reduce, j.Fold, j.Combine = l, "", false }), api.ErrArg)
			rightIs(t, with(j, func(j *Job) { j.Reduce, j.Fold = l, "sum" }), api.ErrArg)
			rightIs(t, with(j, func(j *Job) { j.Map, j.By, j.Reduce = l, l, l }), api.ErrArg)
		}
	}
}

func TestRightOfFolds(t *testing.T) {
	for _, word := range []string{"sum", "max", "min", "gcd"} {
		rightIs(t, with(usual(), func(j *Job) { j.Fold = word }), api.OK)
		rightIs(t, with(usual(), func(j *Job) { j.Fold, j.Combine = word, false }), api.OK)
		rightIs(t, with(usual(), func(j *Job) { j.Fold, j.Reduce = word, []expr.Node{} }), api.OK)
		// Both.
		rightIs(t, with(plain(), func(j *Job) { j.Fold = word }), api.ErrArg)
		rightIs(t, with(usual(), func(j *Job) { j.Fold, j.Reduce = word, read("acc") }), api.ErrArg)
		for _, s := range []string{word + "s", word + " ", " " + word, word[:2], word[1:], strings.ToUpper(word), strings.ToUpper(word[:1]) + word[1:], word + word, word + "\n", word + "\x00"} {
			rightIs(t, with(usual(), func(j *Job) { j.Fold = s }), api.ErrArg)
		}
	}
	for _, s := range []string{"xor", "add", "lcm", "fold", "none", "no", "yes", "0", " ", "\xff", "mul", "cat", "len", strings.Repeat("sum", 1000)} {
		rightIs(t, with(usual(), func(j *Job) { j.Fold = s }), api.ErrArg)
		rightIs(t, with(usual(), func(j *Job) { j.Fold, j.Combine = s, false }), api.ErrArg)
		rightIs(t, with(plain(), func(j *Job) { j.Fold = s }), api.ErrArg)
	}
	// Neither.
	rightIs(t, with(usual(), func(j *Job) { j.Fold, j.Combine = "", false }), api.ErrArg)
	rightIs(t, with(usual(), func(j *Job) { j.Fold = "" }), api.ErrArg)
	rightIs(t, with(plain(), func(j *Job) { j.Reduce = nil }), api.ErrArg)
	rightIs(t, with(plain(), func(j *Job) { j.Reduce = []expr.Node{} }), api.ErrArg)
	// None of a fold, with a Reduce.
	rightIs(t, with(plain(), func(j *Job) { j.Reduce = read("0") }), api.OK)
}

func TestRightOfNamesWithinExpressions(t *testing.T) {
	places := []func(string) string{
		func(s string) string { return s },
		func(s string) string { return deep(24, s) },
		func(s string) string { return "(add " + s + " key)" },
		func(s string) string { return "(add key " + s + ")" },
		func(s string) string { return "(if key key " + s + ")" },
		func(s string) string { return "(each 3 " + s + ")" },
		func(s string) string { return "(let 3 " + s + ")" },
		func(s string) string { return "(let 3 (each 4 (add " + s + " " + s + ")))" },
	}
	for _, place := range places {
		for n, word := range strings.Fields("key val acc i it") {
			l := read(place(word))
			mapWant, byWant := api.OK, api.OK
			if word == "acc" {
				mapWant = api.ErrWord
			}
			if n > 0 {
				byWant = api.ErrWord
			}
			rightIs(t, with(usual(), func(j *Job) { j.Map = l }), mapWant)
			rightIs(t, with(usual(), func(j *Job) { j.By = l }), byWant)
			rightIs(t, with(plain(), func(j *Job) { j.Reduce = l }), api.OK)
		}
	}
	// Texts that are called so are no names, values with their numbers neither.
	for _, s := range []string{`"acc"`, `"val"`, `"i"`, `"(emit key 1)"`, "0", "1", "2", "3", "4", "26"} {
		rightIs(t, with(plain(), func(j *Job) { j.Map, j.By, j.Reduce = read(s), read(s), read(s) }), api.OK)
	}
	rightIs(t, with(usual(), func(j *Job) { j.Map = read("(then key (then val (then i it)))") }), api.OK)
	rightIs(t, with(usual(), func(j *Job) { j.Map = read("(then key (then val (then i (then it acc))))") }), api.ErrWord)
}

func TestRightOfEmits(t *testing.T) {
	for _, s := range []string{"(emit key 1)", deep(22, `(emit "a" key)`), "(add 1 (emit key 1))", "(then (emit key 1) 2)", "(emit (emit key 1) 2)", "(emit key (emit key 1))", "(if 1 2 (emit key 1))", "(if (emit key 0) 2 3)", "(each 2 (emit key 1))", "(let (emit key 1) 0)"} {
		rightIs(t, with(usual(), func(j *Job) { j.Map = read(s) }), api.OK)
		rightIs(t, with(usual(), func(j *Job) { j.By = read(s) }), api.ErrWord)
		rightIs(t, with(plain(), func(j *Job) { j.Reduce = read(s) }), api.ErrWord)
	}
	// Of all kinds with a word only this one is refused.
	for op := 2; op <= 29; op++ {
		word, parts, _ := expr.Parts(op)
		l := read("(" + word + strings.Repeat(" key", parts) + ")")
		want := api.OK
		if word == "emit" {
			want = api.ErrWord
		}
		rightIs(t, with(usual(), func(j *Job) { j.Map = l }), api.OK)
		rightIs(t, with(usual(), func(j *Job) { j.By = l }), want)
		rightIs(t, with(plain(), func(j *Job) { j.Reduce = l }), want)
	}
}

func TestRightOfCombine(t *testing.T) {
	for _, word := range []string{"sum", "max", "min", "gcd"} {
		rightIs(t, with(usual(), func(j *Job) { j.Fold, j.Combine = word, true }), api.OK)
		rightIs(t, with(usual(), func(j *Job) { j.Fold, j.Combine = word, false }), api.OK)
	}
	rightIs(t, with(plain(), func(j *Job) { j.Combine = true }), api.ErrState)
	rightIs(t, with(plain(), func(j *Job) { j.Combine = false }), api.OK)
}

// fault is something wrong with a job.
type fault struct {
	e    api.Errno
	does func(*Job)
}

// faults is what may be wrong with a job, what comes first ahead.
func faults() []fault {
	return []fault{
		{api.ErrName, func(j *Job) { j.Name = "" }},
		{api.ErrName, func(j *Job) { j.Name = "A" }},
		{api.ErrRange, func(j *Job) { j.Tasks = 0 }},
		{api.ErrRange, func(j *Job) { j.Parts = 17 }},
		{api.ErrRange, func(j *Job) { j.K = 0 }},
		{api.ErrRange, func(j *Job) { j.N = 17 }},
		{api.ErrRange, func(j *Job) { j.Fuel = mostFuel + 1 }},
		{api.ErrArg, func(j *Job) { j.Map = nil }},
		{api.ErrArg, func(j *Job) { j.By = []expr.Node{{Op: 26}} }},
		{api.ErrArg, func(j *Job) { j.Fold, j.Reduce = "sum", read("(emit key 1)") }},
		{api.ErrArg, func(j *Job) { j.Fold, j.Reduce = "xor", nil }},
		{api.ErrArg, func(j *Job) { j.Fold, j.Reduce = "", nil }},
		{api.ErrArg, func(j *Job) { j.Fold, j.Reduce = "", []expr.Node{{Op: 26}} }},
		{api.ErrWord, func(j *Job) { j.Map = read("acc") }},
		{api.ErrWord, func(j *Job) { j.By = read("(neg val)") }},
		{api.ErrWord, func(j *Job) { j.By = read("(emit key 1)") }},
		{api.ErrWord, func(j *Job) { j.Fold, j.Reduce = "", read("(emit key 1)") }},
		{api.ErrState, func(j *Job) { j.Fold, j.Reduce, j.Combine = "", read("acc"), true }},
	}
}

func TestRightTellsTheFirstOfTwoFaults(t *testing.T) {
	all := faults()
	rank := map[api.Errno]int{api.ErrName: 1, api.ErrRange: 2, api.ErrArg: 3, api.ErrWord: 4, api.ErrState: 5}
	for i, a := range all {
		rightIs(t, with(usual(), a.does), a.e)
		for _, b := range all[i+1:] {
			if rank[a.e] > rank[b.e] {
				t.Fatal("what comes first isn't ahead")
			}
			// What is done last may undo what was done first, but never the fault that comes first.
			rightIs(t, with(usual(), func(j *Job) { b.does(j); a.does(j) }), a.e)
		}
	}
	// Both faults stand in jobs of each kind: the one that comes first is told, wherever it stands.
	for _, j := range []Job{usual(), plain()} {
		rightIs(t, with(j, func(j *Job) { j.Name, j.Fuel = "", 0 }), api.ErrName)
		rightIs(t, with(j, func(j *Job) { j.Fuel, j.Map = 0, nil }), api.ErrRange)
		rightIs(t, with(j, func(j *Job) { j.Name, j.Map = " ", nil }), api.ErrName)
		rightIs(t, with(j, func(j *Job) { j.Map, j.By = read("acc"), []expr.Node{{Op: 2}} }), api.ErrArg)
		rightIs(t, with(j, func(j *Job) { j.By, j.Fold, j.Reduce = read("val"), "xor", nil }), api.ErrArg)
		rightIs(t, with(j, func(j *Job) { j.Map, j.Fold, j.Reduce = read("acc"), "sum", read("acc") }), api.ErrArg)
		rightIs(t, with(j, func(j *Job) { j.Map, j.Combine, j.Fold, j.Reduce = read("acc"), true, "", read("acc") }), api.ErrWord)
		rightIs(t, with(j, func(j *Job) { j.By, j.Combine, j.Fold, j.Reduce = read("it"), true, "", read("acc") }), api.ErrWord)
		rightIs(t, with(j, func(j *Job) { j.Combine, j.Fold, j.Reduce = true, "", read("(emit key 1)") }), api.ErrWord)
		rightIs(t, with(j, func(j *Job) { j.Combine, j.Fold, j.Reduce = true, "", nil }), api.ErrArg)
		rightIs(t, with(j, func(j *Job) { j.Tasks, j.Combine, j.Fold, j.Reduce = 17, true, "", read("acc") }), api.ErrRange)
	}
	rightIs(t, Job{}, api.ErrName)
	rightIs(t, Job{Name: "a"}, api.ErrRange)
	rightIs(t, Job{Name: "a", Tasks: 1, Parts: 1, K: 1, N: 1, Fuel: 1}, api.ErrArg)
}

func TestRightIsAsTheChapterSaysOfJobsOfChance(t *testing.T) {
	var ch chance
	met := map[api.Errno]int{}
	for range 20000 {
		j := ch.spoilt()
		e := slowRight(j)
		rightIs(t, j, e)
		met[e]++
	}
	for _, e := range []api.Errno{api.OK, api.ErrName, api.ErrRange, api.ErrArg, api.ErrWord, api.ErrState} {
		if met[e] < 100 {
			t.Errorf("no more than %d jobs with %d", met[e], e)
		}
	}
}

// 10.1: Write

func TestWriteOfKnownJobs(t *testing.T) {
	writes(t, usual(), words)
	writes(t, plain(), "job a\ntasks 1\nparts 1\ncode 1 1\nfuel 1\nmap val\nby (len key)\nreduce (add acc val)\ncombine no\n")
	writes(t, with(plain(), func(j *Job) { j.By = nil }), "job a\ntasks 1\nparts 1\ncode 1 1\nfuel 1\nmap val\nreduce (add acc val)\ncombine no\n")
	writes(t, with(plain(), func(j *Job) { j.By = []expr.Node{} }), "job a\ntasks 1\nparts 1\ncode 1 1\nfuel 1\nmap val\nreduce (add acc val)\ncombine no\n")
	writes(t, with(usual(), func(j *Job) { j.By, j.Combine = read("key"), false }), "job words\ntasks 2\nparts 3\ncode 2 3\nfuel 100\nmap (each (words val) (emit (word val i) 1))\nby key\nfold sum\ncombine no\n")
	for _, word := range []string{"sum", "max", "min", "gcd"} {
		writes(t, with(usual(), func(j *Job) { j.Fold, j.Map = word, read("1:-2") }), "job words\ntasks 2\nparts 3\ncode 2 3\nfuel 100\nmap 1:-2\nfold "+word+"\ncombine yes\n")
	}
	writes(t, Job{Name: "0123456789abcdef", Tasks: 16, Parts: 16, K: 16, N: 16, Fuel: mostFuel, Map: read(`"\0a \22"`), By: read("-5"), Reduce: read("(cat key it)")},
		"job 0123456789abcdef\ntasks 16\nparts 16\ncode 16 16\nfuel 100000\nmap \"\\0a \\22\"\nby -5\nreduce (cat key it)\ncombine no\n")
}

func TestWriteIsAsTheChapterSays(t *testing.T) {
	for _, j := range rights() {
		writes(t, j, slowText(j))
	}
}

func TestWriteOfWrongJobs(t *testing.T) {
	for _, x := range faults() {
		if s, e := Write(with(usual(), x.does)); s != "" || e != x.e {
			t.Errorf("Write = %s, %d, want %d", clip(s), e, x.e)
		}
		// What is wrong comes ahead of what is too large.
		large := with(usual(), func(j *Job) { j.Map, j.By = text(4096), text(4096) })
		if s, e := Write(with(large, x.does)); s != "" || e != x.e {
			t.Errorf("Write of a job that is too large = %s, %d, want %d", clip(s), e, x.e)
		}
	}
}

// large is jobs that are written in so many bytes: an expression makes them so long, each one in turn.
func large(size int) []Job {
	var l []Job
	for _, j := range []Job{usual(), plain()} {
		for _, change := range []func(j *Job, l []expr.Node){
			func(j *Job, l []expr.Node) { j.Map = l },
			func(j *Job, l []expr.Node) { j.By = l },
			func(j *Job, l []expr.Node) { j.Fold, j.Combine, j.Reduce = "", false, l },
		} {
			short := with(j, func(j *Job) { change(j, text(0)) })
			l = append(l, with(j, func(j *Job) { change(j, text(size-len(slowText(short)))) }))
		}
	}
	return l
}

func TestWriteOfLongTexts(t *testing.T) {
	for size := mostText - 3; size <= mostText+3; size++ {
		for _, j := range large(size) {
			s := slowText(j)
			if len(s) != size || slowRight(j) != api.OK {
				t.Fatalf("%d bytes, not %d", len(s), size)
			}
			if size <= mostText {
				writes(t, j, s)
				continue
			}
			if got, e := Write(j); got != "" || e != api.ErrLarge {
				t.Errorf("Write of a job whose text has %d bytes = %s, %d", size, clip(got), e)
			}
			refuses(t, s, 0, api.ErrLarge)
		}
	}
	// Here layer 8 refuses an expression.
	both := []expr.Node{{Op: 14}, text(4096)[0], text(4096)[0]}
	for _, l := range [][]expr.Node{text(4094), text(4095), text(4096), both} {
		for _, change := range []func(*Job){
			func(j *Job) { j.Map = l },
			func(j *Job) { j.By = l },
			func(j *Job) { j.Fold, j.Combine, j.Reduce = "", false, l },
			func(j *Job) { j.Map, j.By, j.Fold, j.Combine, j.Reduce = l, l, "", false, l },
		} {
			j := with(usual(), change)
			if s, e := Write(j); s != "" || e != api.ErrLarge || Right(j) != api.OK {
				t.Errorf("Write of an expression that is too large = %s, %d", clip(s), e)
			}
		}
	}
}

// 10.2: Parse

func TestParseOfTheExample(t *testing.T) {
	parses(t, words, usual())
	refuses(t, "", 0, api.ErrShort)
	refuses(t, "job a", 0, api.ErrShort)
	refuses(t, "job a\nparts 1\n", 6, api.ErrWord)
	refuses(t, "job a\ntasks 01\n", 6, api.ErrForm)
	refuses(t, "job a\ntasks\n", 6, api.ErrForm)
	refuses(t, words+"\n", len(words), api.ErrWord)
	refuses(t, "job  a\n", 0, api.ErrForm)
}

// texts is texts of jobs with each of the lines that there may be.
func texts() []string {
	return []string{
		words,
		"job a\ntasks 1\nparts 1\ncode 1 1\nfuel 1\nmap val\nby (len key)\nreduce (add acc val)\ncombine no\n",
		"job 0123456789abcdef\ntasks 16\nparts 16\ncode 16 16\nfuel 100000\nmap (emit key \"a b\")\nby key\nfold gcd\ncombine no\n",
		"job x\ntasks 10\nparts 9\ncode 1 10\nfuel 99999\nmap -1\nreduce (max acc 3:-4)\ncombine no\n",
	}
}

// other is a text in which another one stands for the line of that number, and where that begins.
func other(s string, number int, line string) (string, int) {
	l := strings.SplitAfter(s, "\n")
	at := len(strings.Join(l[:number], ""))
	return s[:at] + line + s[at+len(l[number]):], at
}

// eachLine goes through the lines of the texts, without their line feeds.
func eachLine(f func(s string, number int, line string)) {
	for _, s := range texts() {
		for number, line := range strings.Split(strings.TrimSuffix(s, "\n"), "\n") {
			f(s, number, line)
		}
	}
}

// takes asks whether a text is refused at that line, if another one stands for it, whatever stands behind it.
func takes(t *testing.T, s string, number int, line string, e api.Errno) {
	t.Helper()
	x, at := other(s, number, line+"\n")
	refuses(t, x, at, e)
	refuses(t, x[:at+len(line)+1], at, e)
	refuses(t, x[:at+len(line)+1]+"\n\xff", at, e)
	// A line that isn't ended is too short, whatever it is.
	refuses(t, x[:at+len(line)], at, api.ErrShort)
}

func TestParseOfWordsTooFewAndTooMany(t *testing.T) {
	eachLine(func(s string, number int, line string) {
		l := strings.Split(line, " ")
		for n := 1; n < len(l); n++ {
			takes(t, s, number, strings.Join(l[:n], " "), api.ErrForm)
			takes(t, s, number, strings.Join(l[:n], " ")+" ", api.ErrForm)
		}
		for _, word := range []string{"1", "a", "yes", "key", "sum", l[0], l[len(l)-1], "\xff", ")"} {
			takes(t, s, number, line+" "+word, api.ErrForm)
			takes(t, s, number, l[0]+" "+word+" "+strings.Join(l[1:], " "), api.ErrForm)
			takes(t, s, number, line+" "+word+" "+word, api.ErrForm)
		}
	})
}

func TestParseOfBlanks(t *testing.T) {
	eachLine(func(s string, number int, line string) {
		for at := range line {
			// A blank within a text is the text's own.
			if line[at] != ' ' || strings.Contains(line[:at], `"`) {
				continue
			}
			takes(t, s, number, line[:at]+" "+line[at:], api.ErrForm)
			takes(t, s, number, line[:at]+"   "+line[at:], api.ErrForm)
			for _, white := range []string{"\t", "\u00a0", "\r", "\x00", "_"} {
				e := api.ErrForm
				if !strings.Contains(line[:at], " ") {
					// The first word goes on.
					e = api.ErrWord
				}
				takes(t, s, number, line[:at]+white+line[at+1:], e)
			}
		}
		first, behind, _ := strings.Cut(line, " ")
		takes(t, s, number, line+" ", api.ErrForm)
		takes(t, s, number, line+"  ", api.ErrForm)
		takes(t, s, number, " "+line, api.ErrWord)
		takes(t, s, number, first+behind, api.ErrWord)
		takes(t, s, number, first+" ", api.ErrForm)
		takes(t, s, number, first+"  ", api.ErrForm)
		if first != "job" && first != "fold" {
			// A name, or a fold, may be written with other bytes; it is wrong then.
			takes(t, s, number, line+"\t", api.ErrForm)
			takes(t, s, number, line+"\r", api.ErrForm)
		}
	})
	refuses(t, strings.ReplaceAll(words, "\n", "\r\n"), 11, api.ErrForm)
	refuses(t, strings.ReplaceAll(words, "\n", "\r"), 0, api.ErrShort)
}

func TestParseOfNumbersThatAreNotInDecimal(t *testing.T) {
	wrong := []string{"", "00", "01", "007", "-", "--1", "-0", "-00", "-01", "+", "+0", "+1", "+2", "1-", "1+", "0x1", "1_0", "1.0", "1e1", "1:1", "a", "one", "1a", "a1", "\"1\"", "(neg 1)", "１", "٣", "1\t", "\t1", "1\x00", "1\xff", "-1-", "1-1", ":", "1:", "0 ", "-a",
		strings.Repeat("9", 100) + "a", strings.Repeat("0", 100), "0" + strings.Repeat("1", 40), "-" + strings.Repeat("0", 40) + "1", strings.Repeat("9", 100) + "-", "--" + strings.Repeat("9", 100)}
	eachLine(func(s string, number int, line string) {
		l := strings.Split(line, " ")
		for _, word := range wrong {
			switch l[0] {
			case "tasks", "parts", "fuel":
				takes(t, s, number, l[0]+" "+word, api.ErrForm)
			case "code":
				takes(t, s, number, "code "+word+" "+l[2], api.ErrForm)
				takes(t, s, number, "code "+l[1]+" "+word, api.ErrForm)
				takes(t, s, number, "code "+word+" "+word, api.ErrForm)
			}
		}
	})
}

func TestParseOfNumbersBeyondTheirBounds(t *testing.T) {
	eachLine(func(s string, number int, line string) {
		first, _, _ := strings.Cut(line, " ")
		most := map[string]int{"tasks": 16, "parts": 16, "fuel": mostFuel, "code": 16}[first]
		if most == 0 {
			return
		}
		for _, word := range beyond(most) {
			l := []string{first + " " + word}
			if first == "code" {
				l = []string{"code " + word + " 1", "code 1 " + word, "code " + word + " " + word, "code 16 " + word}
			}
			for _, line := range l {
				x, at := other(s, number, line+"\n")
				refuses(t, x, 0, api.ErrRange)
				// It is written so: what isn't, behind it, comes first.
				refuses(t, x[:at+len(line)+1], at+len(line)+1, api.ErrShort)
				refuses(t, x+"\n", len(x), api.ErrWord)
				refuses(t, x[:len(x)-1], strings.LastIndex(x[:len(x)-1], "\n")+1, api.ErrShort)
				// A name that is wrong, too.
				refuses(t, "job A"+x[strings.Index(x, "\n"):], 0, api.ErrName)
			}
		}
	})
	// A code whose K is above its N.
	for k := 1; k <= 17; k++ {
		for n := 1; n <= 17; n++ {
			x, _ := other(words, 3, fmt.Sprintf("code %d %d\n", k, n))
			if k <= n && n <= 16 {
				parses(t, x, with(usual(), func(j *Job) { j.K, j.N = k, n }))
			} else {
				refuses(t, x, 0, api.ErrRange)
			}
		}
	}
}

// beyond is numbers in decimal that aren't from 1 to another one.
func beyond(most int) []string {
	l := []string{"0", "-1", "-2", "-10", strconv.Itoa(most + 1), strconv.Itoa(most + 2), strconv.Itoa(-most), "100001", "999999", "9007199254740992", "9223372036854775807", "9223372036854775808", "-9223372036854775808", "-9223372036854775809",
		"18446744073709551615", "18446744073709551616", "18446744073709551617", "18446744073709551618", "-18446744073709551615", "-18446744073709551614", "36893488147419103233", "4294967296", "4294967297", "-4294967295", "340282366920938463463374607431768211457"}
	for _, size := range []int{5, 10, 19, 20, 21, 40, 100, 1000} {
		l = append(l, "1"+strings.Repeat("0", size)+"1", strings.Repeat("9", size+1), "-"+strings.Repeat("9", size), "-1"+strings.Repeat("0", size))
	}
	// By wrap-round this one is 1 of 64 bits, and of 128.
	return append(l, new(big.Int).Add(new(big.Int).Lsh(big.NewInt(1), 128), big.NewInt(1)).String())
}

func TestParseOfOtherFirstWords(t *testing.T) {
	lines := []string{"job a", "tasks 1", "parts 1", "code 1 1", "fuel 1", "map 1", "by 1", "fold sum", "reduce 1", "combine no", "foo", "foo 1", "", " ", "  ", "\xff", "\t", "Job a", "jobs a", "jo b", "0", "yes", "(len key)", "0 1"}
	eachLine(func(s string, number int, line string) {
		first, behind, _ := strings.Cut(line, " ")
		may := []string{first}
		switch first {
		case "fold", "reduce":
			may = []string{"fold", "reduce"}
			if !strings.Contains(s, "\nby ") {
				may = append(may, "by")
			}
		case "by":
			may = []string{"by", "fold", "reduce"}
		}
		for _, x := range lines {
			if word, _, _ := strings.Cut(x, " "); !slices.Contains(may, word) {
				takes(t, s, number, x, api.ErrWord)
			}
		}
		for _, word := range []string{first + "s", first[1:], first[:len(first)-1], strings.ToUpper(first), strings.ToUpper(first[:1]) + first[1:], first + first, first + "\t", "\t" + first, "x" + first, "", first + ":"} {
			takes(t, s, number, word+" "+behind, api.ErrWord)
			takes(t, s, number, word, api.ErrWord)
		}
		takes(t, s, number, first, api.ErrForm)
	})
}

func TestParseOfExpressionsThatAreNotWrittenSo(t *testing.T) {
	wrong := []string{"", "foo", "(", ")", "()", "(add 1)", "(add 1 2 3)", "(add 1 2", "add 1 2", "(add  1 2)", "(add 1 2 )", "( add 1 2)", " (add 1 2)", "(add 1 2) ", "(add 1(neg 2))", "(add(neg 1) 2)", "(cat\"a\" \"b\")", "1 2", "01", "-0", "+1", "1: 2", "9007199254740993", "16777217:0", "\"a", "a\"", "\"\\0A\"", "\"\\41\"", "\"\xff\"", "\"\t\"", "KEY", "key val", "(key)", "(emit)", "(each 1 2",
		deep(25, "1"), strings.Repeat("(neg ", 200), "(add 1\t2)", "(add\u00a01 2)", "\xff", "ä"}
	eachLine(func(s string, number int, line string) {
		first, _, _ := strings.Cut(line, " ")
		if first != "map" && first != "by" && first != "reduce" {
			return
		}
		for _, x := range wrong {
			takes(t, s, number, first+" "+x, api.ErrForm)
		}
		// Such are right, however many nodes they may have.
		for _, l := range [][]expr.Node{tree(mostNodes), read("7"), read(deep(24, "key")), read(`" job a "`)} {
			x, _ := expr.Write(l)
			x, _ = other(s, number, first+" "+x+"\n")
			if j, at, e := Parse(x); at != 0 || e != api.OK || !slices.Equal(map[string][]expr.Node{"map": j.Map, "by": j.By, "reduce": j.Reduce}[first], l) {
				t.Errorf("Parse of %s = %s, %d, %d", clip(x), clip(j), at, e)
			}
		}
		// More nodes than there may be, in a text that is short enough.
		many := "(add" + strings.Repeat(" (add 1 1)", 2) + ")"
		for strings.Count(many, "1") <= mostNodes/2 {
			many = "(add " + many + " " + many + ")"
		}
		if len(many) < 3000 {
			takes(t, s, number, first+" "+many, api.ErrForm)
		} else {
			t.Errorf("%d bytes", len(many))
		}
	})
}

func TestParseOfAnswers(t *testing.T) {
	for _, s := range texts() {
		last := strings.Count(s, "\n") - 1
		for _, x := range []string{"", "Yes", "NO", "y", "n", "true", "false", "0", "1", "ye", "yess", "noo", "nope", "yes no", "no no", "yesno", "\"yes\"", "\xff", "key"} {
			takes(t, s, last, "combine "+x, api.ErrForm)
		}
	}
}

func TestParseOfATextCutAtEachByte(t *testing.T) {
	for _, s := range texts() {
		j, at, e := Parse(s)
		if at != 0 || e != api.OK {
			t.Fatalf("Parse of %s = %s, %d, %d", clip(s), clip(j), at, e)
		}
		for size := range s {
			refuses(t, s[:size], strings.LastIndex(s[:size], "\n")+1, api.ErrShort)
			// The beginning is missing: the first word is none that must stand there, or the line isn't ended.
			if size > 0 {
				parsesAsTheChapterSays(t, s[size:])
			}
		}
	}
}

func TestParseOfBytesBehindTheLastLine(t *testing.T) {
	for _, s := range texts() {
		for _, behind := range []string{"\n", " ", " \n", "a", "a\n", "\x00", "\xff", "\r", "\r\n", "\t", "combine", "combine yes", "combine yes\n", "combine no\n", "job a\n", "job", "by key\n", "foo 1\n", "workers 2\n", "\n\n\n", s, s[:len(s)-1]} {
			refuses(t, s+behind, len(s), api.ErrWord)
		}
		for b := range 256 {
			refuses(t, s+string([]byte{byte(b)}), len(s), api.ErrWord)
			refuses(t, s+string([]byte{byte(b)})+"\n", len(s), api.ErrWord)
		}
		// What is behind comes ahead of a job that isn't right.
		for number, line := range []string{"job A", "tasks 17", "parts 0", "code 2 1", "fuel 0", "map acc"} {
			x, _ := other(s, number, line+"\n")
			refuses(t, x+"a", len(x), api.ErrWord)
			refuses(t, x+"\n", len(x), api.ErrWord)
		}
	}
}

func TestParseOfLinesInAnotherOrder(t *testing.T) {
	for _, s := range texts() {
		l := strings.SplitAfter(strings.TrimSuffix(s, "\n"), "\n")
		l[len(l)-1] += "\n"
		places := []int{0}
		for _, line := range l {
			places = append(places, places[len(places)-1]+len(line))
		}
		for i := range l {
			first, _, _ := strings.Cut(l[i], " ")
			// A line twice: its second one is none that must stand there.
			refuses(t, strings.Join(slices.Concat(l[:i+1], l[i:]), ""), places[i+1], api.ErrWord)
			// A line that is missing; only a by may be.
			x := strings.Join(slices.Concat(l[:i], l[i+1:]), "")
			switch {
			case first == "by":
				if _, _, e := Parse(x); e != api.OK {
					t.Errorf("Parse of %s: %d", clip(x), e)
				}
			case first == "combine":
				refuses(t, x, places[i], api.ErrShort)
			default:
				refuses(t, x, places[i], api.ErrWord)
			}
			for j := i + 1; j < len(l); j++ {
				swapped := slices.Clone(l)
				swapped[i], swapped[j] = swapped[j], swapped[i]
				at := places[i]
				if second, _, _ := strings.Cut(l[j], " "); first == "by" && (second == "fold" || second == "reduce") {
					// That may stand where a by may; only then it is missed.
					at += len(l[j])
				}
				refuses(t, strings.Join(swapped, ""), at, api.ErrWord)
			}
		}
		// A fold and a reduce, one behind the other.
		last := len(l) - 2
		for _, line := range []string{"fold sum\n", "reduce acc\n"} {
			x := strings.Join(slices.Insert(slices.Clone(l), last+1, line), "")
			refuses(t, x, places[last+1], api.ErrWord)
		}
	}
}

func TestParseOfLinesOfAllKinds(t *testing.T) {
	lines := []string{"job a\n", "tasks 1\n", "parts 1\n", "code 1 1\n", "fuel 1\n", "map 1\n", "by 1\n", "fold sum\n", "reduce 1\n", "combine no\n", "combine yes\n", "\n", "by\n", "fold 1 \n", "combine"}
	for _, s := range texts() {
		l := strings.SplitAfter(strings.TrimSuffix(s, "\n"), "\n")
		for number := range len(l) + 1 {
			begin := strings.Join(l[:min(number, len(l)-1)], "")
			if number == len(l) {
				begin = s
			}
			for _, a := range lines {
				for _, b := range lines {
					for _, c := range lines {
						parsesAsTheChapterSays(t, begin+a+b+c)
					}
				}
			}
		}
	}
}

func TestParseOfJobsThatAreNotRight(t *testing.T) {
	for _, s := range texts() {
		hasFold := strings.Contains(s, "\nfold ")
		for number, l := range map[int]map[string]api.Errno{
			0: {"job A": api.ErrName, "job abcdefghijklmnopq": api.ErrName, "job a-b": api.ErrName, "job ä": api.ErrName, "job \xff": api.ErrName, "job a\t": api.ErrName, "job a\r": api.ErrName, "job \x00": api.ErrName, "job (neg": api.ErrName},
			1: {"tasks 0": api.ErrRange, "tasks 17": api.ErrRange, "tasks -1": api.ErrRange},
			2: {"parts 0": api.ErrRange, "parts 17": api.ErrRange, "parts -16": api.ErrRange},
			3: {"code 0 1": api.ErrRange, "code 2 1": api.ErrRange, "code 1 17": api.ErrRange, "code 17 17": api.ErrRange, "code 0 0": api.ErrRange, "code -1 1": api.ErrRange},
			4: {"fuel 0": api.ErrRange, "fuel 100001": api.ErrRange, "fuel -100000": api.ErrRange},
			5: {"map acc": api.ErrWord, "map (neg (add 1 acc))": api.ErrWord},
		} {
			for line, e := range l {
				x, _ := other(s, number, line+"\n")
				refuses(t, x, 0, e)
			}
		}
		if number := slices.IndexFunc(strings.Split(s, "\n"), func(line string) bool { return strings.HasPrefix(line, "by ") }); number > 0 {
			for _, line := range []string{"by val", "by acc", "by i", "by it", "by (emit key 1)", "by (neg (neg (emit key 1)))", "by (let key it)", "by (each 3 i)"} {
				x, _ := other(s, number, line+"\n")
				refuses(t, x, 0, api.ErrWord)
			}
		}
		last := strings.Count(s, "\n") - 1
		for line, e := range map[string]api.Errno{"fold xor": api.ErrArg, "fold Sum": api.ErrArg, "fold sum\t": api.ErrArg, "fold \xff": api.ErrArg, "fold 1": api.ErrArg, "reduce (emit key 1)": api.ErrWord, "reduce (add 1 (emit key 1))": api.ErrWord} {
			x, _ := other(s, last-1, line+"\n")
			refuses(t, x, 0, e)
		}
		if !hasFold {
			x, _ := other(s, last, "combine yes\n")
			refuses(t, x, 0, api.ErrState)
		}
	}
	// Of two that are wrong the first one is told, as Right tells it.
	refuses(t, "job A\ntasks 0\nparts 1\ncode 1 1\nfuel 1\nmap acc\nfold xor\ncombine yes\n", 0, api.ErrName)
	refuses(t, "job a\ntasks 0\nparts 1\ncode 1 1\nfuel 1\nmap acc\nfold xor\ncombine yes\n", 0, api.ErrRange)
	refuses(t, "job a\ntasks 1\nparts 1\ncode 1 1\nfuel 1\nmap acc\nfold xor\ncombine yes\n", 0, api.ErrArg)
	refuses(t, "job a\ntasks 1\nparts 1\ncode 1 1\nfuel 1\nmap acc\nreduce 1\ncombine yes\n", 0, api.ErrWord)
	refuses(t, "job a\ntasks 1\nparts 1\ncode 1 1\nfuel 1\nmap 1\nreduce 1\ncombine yes\n", 0, api.ErrState)
}

func TestParseOfLongTexts(t *testing.T) {
	for _, size := range []int{mostText + 1, mostText + 2, 2 * mostText, 1 << 20} {
		for _, s := range []string{strings.Repeat("a", size), strings.Repeat("\n", size), strings.Repeat("job a\n", size)[:size], words + strings.Repeat("\n", size-len(words)), "job A\ntasks " + strings.Repeat("9", size-12), strings.Repeat("\xff", size)} {
			refuses(t, s, 0, api.ErrLarge)
		}
	}
	for _, size := range []int{mostText - 1, mostText} {
		refuses(t, strings.Repeat("a", size), 0, api.ErrShort)
		refuses(t, strings.Repeat("\n", size), 0, api.ErrWord)
		refuses(t, words+strings.Repeat("\n", size-len(words)), len(words), api.ErrWord)
		refuses(t, "job a\ntasks "+strings.Repeat("9", size-12), 6, api.ErrShort)
		refuses(t, "job a\ntasks "+strings.Repeat("9", size-13)+"\n", size, api.ErrShort)
		x, _ := other(words, 1, "tasks "+strings.Repeat("9", size-len(words)+1)+"\n")
		refuses(t, x, 0, api.ErrRange)
		x, _ = other(words, 0, "job "+strings.Repeat("a", size-len(words)+5)+"\n")
		refuses(t, x, 0, api.ErrName)
	}
}

func TestParseIsAsTheChapterSaysOfTextsOfChance(t *testing.T) {
	some := []string{" ", " ", "\n", "\n", "0", "1", "9", "-", "+", "a", "A", "(", ")", "\"", ":", "key", "acc", "by ", "fold ", "reduce ", "combine ", "yes", "no", "sum", "\t", "\xff", "\r"}
	var ch chance
	met := map[api.Errno]int{}
	jobs := rights()
	for range 40000 {
		s := slowText(jobs[ch.below(len(jobs))])
		if ch.below(4) == 0 {
			s = slowText(ch.spoilt())
		}
		for range ch.below(3) {
			at := ch.below(len(s) + 1)
			behind := min(len(s), at+ch.below(4))
			switch ch.below(5) {
			case 0:
				s = s[:at] + s[behind:]
			case 1:
				s = s[:at] + oneOf(&ch, some...) + s[at:]
			case 2:
				s = s[:at] + oneOf(&ch, some...) + s[behind:]
			case 3:
				l := strings.SplitAfter(s, "\n")
				i, j := ch.below(len(l)), ch.below(len(l))
				l[i], l[j] = l[j], l[i]
				s = strings.Join(l, "")
			case 4:
				l := strings.SplitAfter(s, "\n")
				s = strings.Join(slices.Insert(l, ch.below(len(l)), l[ch.below(len(l))]), "")
			}
			if s == "" {
				break
			}
		}
		met[parsesAsTheChapterSays(t, s)]++
	}
	for _, e := range []api.Errno{api.OK, api.ErrShort, api.ErrWord, api.ErrForm, api.ErrName, api.ErrRange, api.ErrArg, api.ErrState} {
		if met[e] < 20 {
			t.Errorf("no more than %d texts with %d", met[e], e)
		}
	}
}

// 10.3: Fold

// folds asks whether a fold of two values, one way and the other, comes to this.
func folds(t *testing.T, word string, a, b, want api.Value) {
	t.Helper()
	for range 2 {
		if v, e := Fold(word, a, b); v != want || e != api.OK {
			t.Errorf("Fold %s of %s and %s = %s, %d, want %s", word, clip(a), clip(b), clip(v), e, clip(want))
		}
		a, b = b, a
	}
}

// foldRefuses asks whether a fold of two values, one way and the other, tells this error.
func foldRefuses(t *testing.T, word string, a, b api.Value, want api.Errno) {
	t.Helper()
	for range 2 {
		if v, e := Fold(word, a, b); v != (api.Value{}) || e != want {
			t.Errorf("Fold %s of %s and %s = %s, %d, want %d", word, clip(a), clip(b), clip(v), e, want)
		}
		a, b = b, a
	}
}

// edges is right values around all edges.
func edges() (numbers, texts, spots []api.Value) {
	for _, n := range []int{0, 1, 2, 3, 4, 6, 9, 12, 35, 1 << 20, 3 << 51, 1 << 52, 1<<52 + 1, 1<<53 - 2, 1<<53 - 1, 1 << 53} {
		numbers = append(numbers, num(n), num(-n))
	}
	for _, s := range []string{"", "a", "b", "ab", "abc", "aa", "\x00", "\xff", "\x7f", "\x80", "0", strings.Repeat("x", 4096), strings.Repeat("x", 4095)} {
		texts = append(texts, txt(s))
	}
	for _, x := range []int{0, 1, -1, 2, -3, 5, 1<<24 - 1, 1 << 24, -1 << 24, 1 - 1<<24} {
		for _, y := range []int{0, 1, -2, 4, 1<<24 - 1, 1 << 24, -1 << 24} {
			spots = append(spots, spot(x, y))
		}
	}
	return numbers, texts, spots
}

// round1 is a sum, less or more twice a bound, so that it is from the bound's negative to below the bound.
func round1(n, bound int) int {
	for n >= bound {
		n -= 2 * bound
	}
	for n < -bound {
		n += 2 * bound
	}
	return n
}

func TestFoldOfTheExample(t *testing.T) {
	folds(t, "sum", num(1<<53), num(0), num(-1<<53))
	folds(t, "gcd", num(-4), num(6), num(2))
}

func TestFoldSumOfNumbers(t *testing.T) {
	folds(t, "sum", num(2), num(3), num(5))
	folds(t, "sum", num(0), num(0), num(0))
	folds(t, "sum", num(-7), num(7), num(0))
	folds(t, "sum", num(1<<53-1), num(0), num(1<<53-1))
	folds(t, "sum", num(1<<53-1), num(1), num(-1<<53))
	folds(t, "sum", num(1<<53-1), num(2), num(1-1<<53))
	folds(t, "sum", num(1<<53-2), num(1), num(1<<53-1))
	folds(t, "sum", num(1<<53), num(-1), num(1<<53-1))
	folds(t, "sum", num(1<<53), num(1), num(1-1<<53))
	folds(t, "sum", num(1<<53), num(1<<53), num(0))
	folds(t, "sum", num(1<<53), num(-1<<53), num(0))
	folds(t, "sum", num(1<<53-1), num(1<<53-1), num(-2))
	folds(t, "sum", num(-1<<53), num(0), num(-1<<53))
	folds(t, "sum", num(-1<<53), num(1), num(1-1<<53))
	folds(t, "sum", num(-1<<53), num(-1), num(1<<53-1))
	folds(t, "sum", num(-1<<53), num(-1<<53), num(0))
	folds(t, "sum", num(1-1<<53), num(-1), num(-1<<53))
	folds(t, "sum", num(1-1<<53), num(-2), num(1<<53-1))
	folds(t, "sum", num(1<<52), num(1<<52), num(-1<<53))
	folds(t, "sum", num(-1<<52), num(-1<<52), num(-1<<53))
	numbers, _, _ := edges()
	for _, a := range numbers {
		for _, b := range numbers {
			folds(t, "sum", a, b, num(round1(a.N+b.N, 1<<53)))
		}
	}
}

func TestFoldSumOfPoints(t *testing.T) {
	folds(t, "sum", spot(1, 2), spot(3, -5), spot(4, -3))
	// Each part by itself.
	for _, x := range [][3]int{
		{1<<24 - 1, 0, 1<<24 - 1}, {1<<24 - 1, 1, -1 << 24}, {1 << 24, 0, -1 << 24}, {1 << 24, 1, 1 - 1<<24}, {1 << 24, -1, 1<<24 - 1}, {1 << 24, 1 << 24, 0}, {1 << 24, -1 << 24, 0},
		{-1 << 24, 0, -1 << 24}, {-1 << 24, -1, 1<<24 - 1}, {-1 << 24, 1, 1 - 1<<24}, {-1 << 24, -1 << 24, 0}, {1 - 1<<24, -1, -1 << 24}, {1<<24 - 1, 1<<24 - 1, -2}, {1 << 23, 1 << 23, -1 << 24}, {-1 << 23, -1 << 23, -1 << 24},
	} {
		folds(t, "sum", spot(x[0], 3), spot(x[1], 4), spot(x[2], 7))
		folds(t, "sum", spot(3, x[0]), spot(4, x[1]), spot(7, x[2]))
		folds(t, "sum", spot(x[0], x[0]), spot(x[1], x[1]), spot(x[2], x[2]))
	}
	_, _, spots := edges()
	for _, a := range spots {
		for _, b := range spots {
			folds(t, "sum", a, b, spot(round1(a.P.X+b.P.X, 1<<24), round1(a.P.Y+b.P.Y, 1<<24)))
		}
	}
}

func TestFoldMaxAndMin(t *testing.T) {
	folds(t, "max", num(2), num(-3), num(2))
	folds(t, "min", num(2), num(-3), num(-3))
	folds(t, "max", txt("b"), txt("ab"), txt("b"))
	folds(t, "min", txt("b"), txt("ab"), txt("ab"))
	folds(t, "max", txt("a"), txt("ab"), txt("ab"))
	folds(t, "min", txt("a"), txt("ab"), txt("a"))
	folds(t, "max", txt(""), txt("\x00"), txt("\x00"))
	folds(t, "min", txt("\x7f"), txt("\x80"), txt("\x7f"))
	folds(t, "max", spot(1, 9), spot(2, -9), spot(2, -9))
	folds(t, "min", spot(1, 9), spot(2, -9), spot(1, 9))
	folds(t, "max", spot(1, 9), spot(1, -9), spot(1, 9))
	folds(t, "min", spot(1, 9), spot(1, -9), spot(1, -9))
	// These are left as they are: only a sum is rounded.
	folds(t, "max", num(1<<53), num(-1<<53), num(1<<53))
	folds(t, "max", spot(1<<24, 1<<24), spot(0, 0), spot(1<<24, 1<<24))
	numbers, texts, spots := edges()
	for _, l := range [][]api.Value{numbers, texts, spots} {
		for _, a := range l {
			folds(t, "max", a, a, a)
			folds(t, "min", a, a, a)
			for _, b := range l {
				last, first := a, b
				if value.Order(a, b) < 0 {
					last, first = b, a
				}
				folds(t, "max", a, b, last)
				folds(t, "min", a, b, first)
			}
		}
	}
}

func TestFoldGcdOfNumbers(t *testing.T) {
	folds(t, "gcd", num(0), num(0), num(0))
	folds(t, "gcd", num(0), num(-9), num(9))
	folds(t, "gcd", num(0), num(9), num(9))
	folds(t, "gcd", num(0), num(1), num(1))
	folds(t, "gcd", num(12), num(18), num(6))
	folds(t, "gcd", num(-12), num(-18), num(6))
	folds(t, "gcd", num(-12), num(18), num(6))
	folds(t, "gcd", num(7), num(7), num(7))
	folds(t, "gcd", num(-7), num(-7), num(7))
	folds(t, "gcd", num(0), num(-1<<53), num(1<<53))
	folds(t, "gcd", num(0), num(1<<53), num(1<<53))
	folds(t, "gcd", num(-1<<53), num(1<<53), num(1<<53))
	folds(t, "gcd", num(-1<<53), num(-1<<53), num(1<<53))
	folds(t, "gcd", num(1<<53), num(12), num(4))
	folds(t, "gcd", num(-1<<53), num(1<<53-1), num(1))
	// Numbers by which the most steps are taken.
	a, b := 1, 1
	for a+b <= 1<<53 {
		a, b = a+b, a
		folds(t, "gcd", num(a), num(b), num(1))
	}
	all, _, _ := edges()
	for n := -30; n <= 30; n++ {
		all = append(all, num(n))
	}
	for _, a := range all {
		for _, b := range all {
			want := new(big.Int).GCD(nil, nil, new(big.Int).Abs(big.NewInt(int64(a.N))), new(big.Int).Abs(big.NewInt(int64(b.N))))
			folds(t, "gcd", a, b, num(int(want.Int64())))
		}
	}
}

func TestFoldGcdOfPoints(t *testing.T) {
	folds(t, "gcd", spot(5, 5), spot(0, 10), spot(5, 5))
	folds(t, "gcd", spot(0, 0), spot(0, 0), spot(0, 0))
	folds(t, "gcd", spot(0, 0), spot(-3, 4), spot(4, 3))
	folds(t, "gcd", spot(0, 0), spot(0, -1), spot(1, 0))
	folds(t, "gcd", spot(5, 0), spot(3, 4), spot(2, 1))
	folds(t, "gcd", spot(1<<24, 0), spot(0, -1<<24), spot(1<<24, 0))
	folds(t, "gcd", spot(-1<<24, -1<<24), spot(0, 0), spot(1<<24, 1<<24))
	_, _, spots := edges()
	for x := -4; x <= 4; x++ {
		for y := -4; y <= 4; y++ {
			spots = append(spots, spot(x, y))
		}
	}
	for _, a := range spots {
		for _, b := range spots {
			want, e := gauss.Common(a.P, b.P)
			if e != api.OK {
				t.Fatal(e)
			}
			folds(t, "gcd", a, b, spot(want.X, want.Y))
		}
	}
}

func TestFoldOfOtherKinds(t *testing.T) {
	numbers, texts, spots := edges()
	for _, word := range []string{"sum", "max", "min", "gcd"} {
		for _, a := range numbers {
			for _, b := range slices.Concat(texts, spots) {
				foldRefuses(t, word, a, b, api.ErrType)
			}
		}
		for _, a := range texts {
			for _, b := range spots {
				foldRefuses(t, word, a, b, api.ErrType)
			}
			for _, b := range texts {
				if word == "sum" || word == "gcd" {
					foldRefuses(t, word, a, b, api.ErrType)
				}
			}
		}
	}
}

func TestFoldOfWrongValuesAndWords(t *testing.T) {
	wrong := []api.Value{
		{N: 1<<53 + 1}, {N: -1<<53 - 1}, {N: math.MinInt}, {N: math.MaxInt}, {S: "a"}, {P: api.Spot{X: 1}}, {N: 1, P: api.Spot{Y: 1}},
		{Kind: 1, N: 1}, {Kind: 1, P: api.Spot{X: 1}}, {Kind: 1, S: strings.Repeat("a", 4097)},
		{Kind: 2, N: 1}, {Kind: 2, S: "a"}, {Kind: 2, P: api.Spot{X: 1<<24 + 1}}, {Kind: 2, P: api.Spot{Y: -1<<24 - 1}}, {Kind: 2, P: api.Spot{X: math.MinInt, Y: math.MaxInt}},
		{Kind: 3}, {Kind: -1}, {Kind: 256}, {Kind: math.MaxInt}, {Kind: math.MinInt},
	}
	numbers, texts, spots := edges()
	for _, word := range []string{"sum", "max", "min", "gcd"} {
		for _, a := range wrong {
			for _, b := range slices.Concat(wrong, numbers, texts, spots) {
				foldRefuses(t, word, a, b, api.ErrArg)
			}
		}
	}
	for _, word := range []string{"", "xor", "Sum", "SUM", "sum ", " sum", "su", "summ", "sum\n", "max\x00", "gc", "maxi", "add", "fold", "\xff", strings.Repeat("sum", 1<<16)} {
		for _, b := range []api.Value{num(0), num(1), txt("a"), spot(1, 1), {Kind: 3}, {N: math.MaxInt}} {
			foldRefuses(t, word, num(1), b, api.ErrArg)
			foldRefuses(t, word, b, b, api.ErrArg)
		}
	}
}

// 10.3: Part

// part asks for a key's part.
func part(t *testing.T, j Job, key string, want int, e api.Errno) {
	t.Helper()
	if n, f := Part(j, key); n != want || f != e {
		t.Errorf("Part of %s by %s of %d = %d, %d, want %d, %d", clip(key), clip(j.By), j.Parts, n, f, want, e)
	}
}

func TestPartWithoutBy(t *testing.T) {
	var ch chance
	keys := []string{"", "a", "b", "123456789", "\x00", "\xff", strings.Repeat("k", mostKey-1), strings.Repeat("k", mostKey), strings.Repeat("\xff", mostKey)}
	for range 300 {
		key := make([]byte, ch.below(mostKey+1))
		for i := range key {
			key[i] = byte(ch.below(256))
		}
		keys = append(keys, string(key))
	}
	for parts := 1; parts <= 16; parts++ {
		j := with(usual(), func(j *Job) { j.Parts = parts })
		for _, key := range keys {
			part(t, j, key, int(crc32.ChecksumIEEE([]byte(key))%uint32(parts)), api.OK)
		}
	}
	// The sum of 123456789 is 0xcbf43926, which is above 2^31.
	part(t, with(usual(), func(j *Job) { j.Parts = 16 }), "123456789", 6, api.OK)
	part(t, with(usual(), func(j *Job) { j.Parts = 10 }), "123456789", 0xcbf43926%10, api.OK)
	part(t, usual(), "", 0, api.OK)
	part(t, with(usual(), func(j *Job) { j.By = []expr.Node{} }), "", 0, api.OK)
	// One step is enough: none is taken.
	part(t, with(usual(), func(j *Job) { j.Fuel, j.Parts = 1, 16 }), "123456789", 6, api.OK)
}

func TestPartOfLongKeys(t *testing.T) {
	for _, by := range [][]expr.Node{nil, read("(len key)"), read("key"), read("(div 1 0)")} {
		j := with(usual(), func(j *Job) { j.By = by })
		for _, size := range []int{mostKey + 1, mostKey + 2, 2 * mostKey, 4096, 4097, 1 << 16} {
			part(t, j, strings.Repeat("k", size), 0, api.ErrLarge)
		}
	}
	for size := range mostKey + 1 {
		part(t, with(usual(), func(j *Job) { j.By = read("(len key)") }), strings.Repeat("k", size), size%3, api.OK)
	}
}

func TestPartWithBy(t *testing.T) {
	for parts := 1; parts <= 16; parts++ {
		for _, n := range []int{0, 1, 2, 15, 16, 17, 40, 1<<32 + 5, 1<<53 - 1, 1 << 53} {
			for _, n := range []int{n, -n, n - parts, -n - parts} {
				if n < -1<<53 {
					continue
				}
				want := n % parts
				if want < 0 {
					want += parts
				}
				part(t, with(usual(), func(j *Job) { j.Parts, j.By = parts, []expr.Node{{V: num(n)}} }), "any", want, api.OK)
				part(t, with(usual(), func(j *Job) { j.Parts, j.By = parts, read("(num key)") }), strconv.Itoa(n), want, api.OK)
			}
		}
	}
	part(t, with(plain(), func(j *Job) { j.Parts, j.By = 3, read("-1") }), "a", 2, api.OK)
	part(t, with(plain(), func(j *Job) { j.Parts, j.By = 3, read("-3") }), "a", 0, api.OK)
	part(t, with(plain(), func(j *Job) { j.Parts, j.By = 3, read("0") }), "a", 0, api.OK)
	part(t, with(plain(), func(j *Job) { j.Parts, j.By = 3, read("3") }), "a", 0, api.OK)
	part(t, with(plain(), func(j *Job) { j.Parts, j.By = 3, read("4") }), "a", 1, api.OK)
}

func TestPartWithAByThatHasAnError(t *testing.T) {
	for s, e := range map[string]api.Errno{
		"key": api.ErrType, `"1"`: api.ErrType, "1:0": api.ErrType, "0:0": api.ErrType, "(text 1)": api.ErrType, "(at 1 2)": api.ErrType,
		"(div 1 0)": api.ErrZero, "(num key)": api.ErrForm, "(neg key)": api.ErrType, "(add 9007199254740992 1)": api.ErrRange, "(word key 5)": api.ErrRange, "(each -1 0)": api.ErrRange, "(each 1000 0)": api.ErrFuel,
		"(let (cat key key) (len (cat key (cat key (cat key key)))))": api.OK,
	} {
		j := with(usual(), func(j *Job) { j.By, j.Parts = read(s), 16 })
		n := 0
		if e == api.OK {
			n = 12
		}
		part(t, j, "abc", n, e)
	}
}

func TestPartTakesTheFuel(t *testing.T) {
	for _, s := range []string{"7", "(len key)", "(add (len key) 1)", "(each 100 (len key))", "(each 33332 (len key))", "(each 49999 7)", "(if (len key) (num (text 5)) (div 1 0))"} {
		for _, key := range []string{"k", "key", strings.Repeat("k", mostKey)} {
			steps, e := eval.Steps(read(s), eval.Env{Key: key})
			if e != api.OK {
				t.Fatal(s, e)
			}
			r, _ := eval.Run(read(s), eval.Env{Key: key}, steps)
			for _, fuel := range []int{1, 2, steps - 1, steps, steps + 1, mostFuel} {
				if fuel < 1 || fuel > mostFuel {
					continue
				}
				j := with(usual(), func(j *Job) { j.By, j.Fuel = read(s), fuel })
				if fuel < steps {
					part(t, j, key, 0, api.ErrFuel)
				} else {
					part(t, j, key, r.V.N%3, api.OK)
				}
			}
		}
	}
	// Just as many steps as there may be, and one more.
	part(t, with(usual(), func(j *Job) { j.By, j.Fuel = read("(each 99998 7)"), mostFuel }), "k", 1, api.OK)
	part(t, with(usual(), func(j *Job) { j.By, j.Fuel = read("(each 99999 7)"), mostFuel }), "k", 0, api.ErrFuel)
	part(t, with(usual(), func(j *Job) { j.By, j.Fuel = read("(each 99998 7)"), mostFuel-1 }), "k", 0, api.ErrFuel)
}

func TestPartOfWrongJobs(t *testing.T) {
	for _, x := range faults() {
		for _, key := range []string{"", "k", strings.Repeat("k", mostKey), strings.Repeat("k", mostKey+1)} {
			part(t, with(usual(), x.does), key, 0, x.e)
			// What is wrong comes ahead of what a By comes to.
			part(t, with(with(usual(), func(j *Job) { j.By = read("(div 1 0)") }), x.does), key, 0, x.e)
		}
	}
	part(t, Job{}, "", 0, api.ErrName)
	part(t, Job{Name: "a"}, "", 0, api.ErrRange)
}

// 10.4: there and back, and folds of three

func TestWhatIsWrittenIsReadAsItWas(t *testing.T) {
	for _, j := range rights() {
		s, e := Write(j)
		if e != api.OK {
			t.Errorf("Write of %s: %d", clip(j), e)
			continue
		}
		parses(t, s, j)
		if again, e := Write(j); again != s || e != api.OK {
			t.Errorf("Write of %s, again = %s, %d", clip(j), clip(again), e)
		}
	}
}

func TestNothingElseIsRead(t *testing.T) {
	var ch chance
	for _, s := range texts() {
		// Each byte is another one, is missing, or is there twice.
		for at := range s {
			for _, b := range []byte{0, '\n', ' ', '0', '1', '9', 'a', 's', 'A', '(', ')', '"', '-', '+', 0x80, 0xff, s[at] ^ 1, byte(ch.below(256))} {
				parsesAsTheChapterSays(t, s[:at]+string([]byte{b})+s[at+1:])
			}
			parsesAsTheChapterSays(t, s[:at]+s[at+1:])
			parsesAsTheChapterSays(t, s[:at]+s[at:at+1]+s[at:])
			parsesAsTheChapterSays(t, s[:at]+" "+s[at:])
			parsesAsTheChapterSays(t, s[:at]+"\n"+s[at:])
		}
	}
}

// foldTwice is the fold of the fold of two values, and a third one; inner tells whether that stands ahead.
func foldTwice(word string, a, b, c api.Value, ahead bool) (api.Value, api.Errno) {
	v, e := Fold(word, a, b)
	if e != api.OK {
		return api.Value{}, e
	}
	if ahead {
		return Fold(word, v, c)
	}
	return Fold(word, c, v)
}

func TestFoldsOfThreeValuesAreTheSame(t *testing.T) {
	numbers, texts, spots := edges()
	var some []api.Value
	for _, l := range [][]api.Value{numbers, texts, spots} {
		for i, v := range l {
			// All numbers and texts, and every third point.
			if v.Kind != 2 || i%3 == 0 {
				some = append(some, v)
			}
		}
	}
	orders := [][3]int{{0, 1, 2}, {0, 2, 1}, {1, 0, 2}, {1, 2, 0}, {2, 0, 1}, {2, 1, 0}}
	for _, word := range []string{"sum", "max", "min", "gcd"} {
		for i, a := range some {
			for j, b := range some[i:] {
				for _, c := range some[i+j:] {
					l := [3]api.Value{a, b, c}
					want, wantError := foldTwice(word, a, b, c, true)
					for _, o := range orders {
						for _, ahead := range []bool{true, false} {
							if v, e := foldTwice(word, l[o[0]], l[o[1]], l[o[2]], ahead); v != want || e != wantError {
								t.Fatalf("Fold %s of %s, in the order %v, = %s, %d, want %s, %d", word, clip(l), o, clip(v), e, clip(want), wantError)
							}
						}
					}
				}
			}
		}
	}
}

func TestFoldsOfManyValuesOfChanceAreTheSame(t *testing.T) {
	var ch chance
	some := func(kind int) api.Value {
		switch kind {
		case 0:
			return num((ch.below(1<<16)<<38 | ch.below(1<<16)<<22 | ch.below(1<<16)) - 1<<53)
		case 1:
			return txt(strings.Repeat(oneOf(&ch, "a", "b", "\xff"), ch.below(3)) + oneOf(&ch, "a", "b", ""))
		}
		return spot(ch.below(1<<16)<<9-1<<24, ch.below(1<<16)<<9+ch.below(1<<9)-1<<24)
	}
	for range 3000 {
		kind := ch.below(3)
		var l []api.Value
		for range 2 + ch.below(8) {
			l = append(l, some(kind))
		}
		for _, word := range []string{"sum", "max", "min", "gcd"} {
			want, wantError := l[0], api.OK
			for _, v := range l[1:] {
				if wantError == api.OK {
					want, wantError = Fold(word, want, v)
				}
			}
			// Any two are folded to one, until one is left.
			left := slices.Clone(l)
			e := api.OK
			for len(left) > 1 && e == api.OK {
				i := ch.below(len(left))
				a := left[i]
				left = slices.Delete(left, i, i+1)
				i = ch.below(len(left))
				left[i], e = Fold(word, left[i], a)
			}
			if e != wantError || e == api.OK && left[0] != want {
				t.Errorf("Fold %s of %s = %s, %d, want %s, %d", word, clip(l), clip(left), e, clip(want), wantError)
			}
		}
	}
}

// Rules 2, 4 and 6: nothing beside an error, memory, and what calls hang on

// shares tells whether two texts have a byte of memory in common.
func shares(a, b string) bool {
	if a == "" || b == "" {
		return false
	}
	from, other := uintptr(unsafe.Pointer(unsafe.StringData(a))), uintptr(unsafe.Pointer(unsafe.StringData(b)))
	return from < other+uintptr(len(b)) && other < from+uintptr(len(a))
}

// textsOf is all texts of a job.
func textsOf(j Job) []string {
	l := []string{j.Name, j.Fold}
	for _, n := range slices.Concat(j.Map, j.By, j.Reduce) {
		l = append(l, n.V.S)
	}
	return l
}

func TestWhatIsHandedInIsNotChanged(t *testing.T) {
	var ch chance
	for _, j := range append(rights()[:300], ch.spoilt(), ch.spoilt(), ch.spoilt(), ch.spoilt()) {
		spare := []expr.Node{{Op: 77}, {Op: 78}}
		room := [][]expr.Node{slices.Concat(j.Map, spare), slices.Concat(j.By, spare), slices.Concat(j.Reduce, spare)}
		given := j
		given.Map, given.By, given.Reduce = room[0][:len(j.Map)], room[1][:len(j.By)], room[2][:len(j.Reduce)]
		Right(given)
		Write(given)
		Part(given, "key")
		for i, l := range [][]expr.Node{j.Map, j.By, j.Reduce} {
			if !slices.Equal(room[i], slices.Concat(l, spare)) {
				t.Errorf("%s was changed", clip(j))
			}
		}
	}
}

func TestWhatIsHandedOutIsNew(t *testing.T) {
	for _, s := range []string{
		"job somename\ntasks 2\nparts 3\ncode 2 3\nfuel 100\nmap \"some text of a map\"\nby (len \"some text of a by\")\nfold sum\ncombine yes\n",
		"job somename\ntasks 2\nparts 3\ncode 2 3\nfuel 100\nmap \"some text\"\nby (len \"some text\")\nreduce \"some text\"\ncombine no\n",
	} {
		a, _, e := Parse(s)
		b, _, _ := Parse(s)
		first, f := Write(a)
		second, _ := Write(a)
		if e != api.OK || f != api.OK || first != s {
			t.Fatalf("Parse of %s: %d, %d", clip(s), e, f)
		}
		for i, x := range textsOf(a) {
			for k, y := range append(textsOf(a), append(textsOf(b), s)...) {
				if i != k && shares(x, y) {
					t.Errorf("%s shares memory with %s", clip(x), clip(y))
				}
			}
			if shares(x, first) || shares(x, second) {
				t.Errorf("Write shares memory with what it was handed")
			}
		}
		if shares(first, second) {
			t.Errorf("Write shares memory with an earlier answer")
		}
		// Lists, with their spare room, are the answer's own too.
		for _, l := range [][]expr.Node{a.Map, a.By, a.Reduce} {
			for i := range l[:cap(l)] {
				l[:cap(l)][i] = expr.Node{Op: 99}
			}
		}
		parses(t, s, b)
		own, _, _ := Parse(s)
		for i := range own.Map[:cap(own.Map)] {
			own.Map[:cap(own.Map)][i] = expr.Node{Op: 99}
		}
		if !slices.Equal(own.By, b.By) || !slices.Equal(own.Reduce, b.Reduce) {
			t.Errorf("lists of one answer are one")
		}
	}
	for _, word := range []string{"max", "min"} {
		a, b := txt(strings.Repeat("a", 40)), txt(strings.Repeat("b", 40))
		for range 2 {
			v, _ := Fold(word, a, b)
			w, _ := Fold(word, a, b)
			same, _ := Fold(word, a, a)
			if shares(v.S, a.S) || shares(v.S, b.S) || shares(v.S, w.S) || shares(same.S, a.S) {
				t.Errorf("Fold %s shares memory with what it was handed, or with an earlier answer", word)
			}
			a, b = b, a
		}
	}
}

func TestAnAnswerDoesNotFollowItsArguments(t *testing.T) {
	room := []byte(strings.Replace(words, "1))", `"abc"))`, 1))
	j, _, e := Parse(unsafe.String(&room[0], len(room)))
	want := with(usual(), func(j *Job) { j.Map = read(`(each (words val) (emit (word val i) "abc"))`) })
	for i := range room {
		room[i] = 'x'
	}
	if e != api.OK || !alike(j, want) {
		t.Errorf("Parse = %s, %d", clip(j), e)
	}
	given := []byte("some text")
	v, _ := Fold("max", txt(unsafe.String(&given[0], len(given))), txt("a"))
	copy(given, "xxxxxxxxx")
	if v != txt("some text") {
		t.Errorf("Fold = %s", clip(v))
	}
	s, _ := Write(want)
	want.Map[0].Op = 99
	if again, _, _ := Parse(s); again.Map[0].Op != 28 {
		t.Errorf("Write = %s", clip(s))
	}
}

func TestCallsDoNotHangOnEarlierOnes(t *testing.T) {
	for range 3 {
		refuses(t, "job a\ntasks 3\nparts 4\n", 22, api.ErrShort)
		parses(t, words, usual())
		refuses(t, strings.Replace(words, "yes", "maybe", 1), len(words)-len("combine yes\n"), api.ErrForm)
		writes(t, with(plain(), func(j *Job) { j.By = nil }), "job a\ntasks 1\nparts 1\ncode 1 1\nfuel 1\nmap val\nreduce (add acc val)\ncombine no\n")
		rightIs(t, with(usual(), func(j *Job) { j.Name = "A" }), api.ErrName)
		rightIs(t, usual(), api.OK)
		folds(t, "sum", num(1), num(2), num(3))
		foldRefuses(t, "sum", num(1), txt(""), api.ErrType)
		part(t, with(usual(), func(j *Job) { j.By = read("(div 1 0)") }), "k", 0, api.ErrZero)
		part(t, usual(), "", 0, api.OK)
	}
}
