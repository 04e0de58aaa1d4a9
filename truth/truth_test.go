package truth

import (
	"fmt"
	"hash/crc32"
	"math"
	"slices"
	"strconv"
	"strings"
	"testing"
	"unsafe"

	"stook/api"
	"stook/eval"
	"stook/expr"
	"stook/job"
	"stook/pairs"
	"stook/tape"
	"stook/value"
)

const (
	// mostInput is how many bytes an input may have, mostLines how many lines, mostLine how many bytes a line, mostTasks how many tasks a job may have, and parts.
	mostInput = 65536
	mostLines = 1000
	mostLine  = 4096
	mostTasks = 16
	// mostList is how many bytes a list may have.
	mostList = 524288

	// countWords lays each word down with 1. tell lays each word down that is a key's letter, N, T or P, and what the value is: a number, a text, or the point of a number and 1; others are errors.
	countWords = `(each (words val) (emit (word val i) 1))`
	tell       = `(each (words val) (let (word val i) (emit (cut it 0 1) (if (same (cut it 1 2) "N") (num (cut it 2 (len it))) (if (same (cut it 1 2) "T") (cut it 2 (len it)) (at (num (cut it 2 (len it))) (if (same (cut it 1 2) "P") 1 (div 1 0))))))))`
	// repeat lays a long line down 64 times, each time with another key, and a short one once. The key begins with the line's first letter; the value is 1, if N is the second one, else the line.
	repeat = `(let (less (len val) 1000) (each (if it 1 64) (emit (cat (cut val 0 1) (if it "" (text i))) (if (same (cut val 1 2) "N") 1 val))))`
)

func num(n int) api.Value     { return api.Value{Kind: 0, N: n} }
func txt(s string) api.Value  { return api.Value{Kind: 1, S: s} }
func spot(x, y int) api.Value { return api.Value{Kind: 2, P: api.Spot{X: x, Y: y}} }

func pair(key string, v api.Value) api.Pair { return api.Pair{Key: key, Val: v} }

// list is a list of these keys and values, one behind the other.
func list(words ...any) []api.Pair {
	var l []api.Pair
	for i := 0; i < len(words); i += 2 {
		switch v := words[i+1].(type) {
		case int:
			l = append(l, pair(words[i].(string), num(v)))
		case string:
			l = append(l, pair(words[i].(string), txt(v)))
		case api.Value:
			l = append(l, pair(words[i].(string), v))
		}
	}
	return l
}

// read is the expression that a text is.
func read(s string) []expr.Node {
	l, at, e := expr.Parse(s)
	if e != api.OK {
		panic(fmt.Sprint(s, at, e))
	}
	return l
}

// folding is a job with a fold, reducing one with a Reduce; both without a By, or with it, if it is one.
func folding(tasks, parts int, mapper, by, word string) job.Job {
	j := job.Job{Name: "a", Tasks: tasks, Parts: parts, K: 1, N: 1, Fuel: 100000, Map: read(mapper), Fold: word}
	if by != "" {
		j.By = read(by)
	}
	return j
}

func reducing(tasks, parts int, mapper, by, reduce string) job.Job {
	j := folding(tasks, parts, mapper, by, "")
	j.Reduce = read(reduce)
	return j
}

// with is a job with something else in it; combining one that combines.
func with(j job.Job, change func(*job.Job)) job.Job {
	change(&j)
	return j
}

func combining(j job.Job) job.Job { return with(j, func(j *job.Job) { j.Combine = true }) }

// wrongJobs is jobs that aren't right, each with its error.
func wrongJobs() map[api.Errno][]job.Job {
	good, other := folding(2, 2, countWords, "", "sum"), reducing(2, 2, countWords, "", "(add acc val)")
	changed := func(changes ...func(*job.Job)) []job.Job {
		var l []job.Job
		for _, change := range changes {
			l = append(l, with(good, change))
		}
		return l
	}
	return map[api.Errno][]job.Job{
		api.ErrName: append(changed(func(j *job.Job) { j.Name = "" }, func(j *job.Job) { j.Name = "A" }), job.Job{}),
		api.ErrRange: changed(
			func(j *job.Job) { j.Tasks = 0 }, func(j *job.Job) { j.Tasks = 17 }, func(j *job.Job) { j.Tasks = math.MinInt }, func(j *job.Job) { j.Tasks = math.MaxInt },
			func(j *job.Job) { j.Parts = 0 }, func(j *job.Job) { j.Parts = 17 }, func(j *job.Job) { j.Parts = -1 }, func(j *job.Job) { j.Parts = math.MaxInt },
			func(j *job.Job) { j.K = 2 }, func(j *job.Job) { j.N = 0 }, func(j *job.Job) { j.Fuel = 0 }, func(j *job.Job) { j.Fuel = 100001 },
		),
		api.ErrArg: changed(
			func(j *job.Job) { j.Map = nil }, func(j *job.Job) { j.Map = j.Map[1:] }, func(j *job.Job) { j.Map = []expr.Node{{Op: 30}} }, func(j *job.Job) { j.By = []expr.Node{{Op: 2}} },
			func(j *job.Job) { j.Fold = "" }, func(j *job.Job) { j.Fold = "xor" }, func(j *job.Job) { j.Reduce = read("acc") },
		),
		api.ErrWord:  append(changed(func(j *job.Job) { j.Map = read("acc") }, func(j *job.Job) { j.By = read("val") }), with(other, func(j *job.Job) { j.Reduce = read("(emit key 1)") })),
		api.ErrState: {combining(other)},
	}
}

// wrongInputs is inputs that aren't right: too long, of too many lines, with a line that is too long.
func wrongInputs() []string {
	long := strings.Repeat("x", mostLine+1)
	return []string{
		strings.Repeat(strings.Repeat("x", 1023)+"\n", 64) + "\n", strings.Repeat(strings.Repeat("x", 1023)+"\n", 64) + "x", strings.Repeat("x", mostInput+1), strings.Repeat("\n", mostInput+1), strings.Repeat("x\n", 1<<20),
		strings.Repeat("\n", mostLines+1), strings.Repeat("\n", mostLines) + "x", strings.Repeat("x\n", mostLines) + "\n", strings.Repeat("\n", mostInput),
		long, long + "\n", "a\n" + long + "\nb\n", "a\n" + long, strings.Repeat("\n", mostLines-1) + long, "\n\n" + strings.Repeat("\r", mostLine) + "\r\n",
	}
}

// clip is something as a fault tells it.
func clip(v any) string {
	s := strconv.QuoteToASCII(fmt.Sprint(v))
	if len(s) > 500 {
		return s[:250] + ".." + s[len(s)-250:]
	}
	return s
}

// chance is a row of numbers that looks like chance and is the same each time.
type chance uint32

func (c *chance) below(n int) int {
	*c = *c*1664525 + 1013904223
	return int(*c>>16) % n
}

// oneOf is one of these by chance.
func oneOf[T any](c *chance, l ...T) T { return l[c.below(len(l))] }

// input is an input of chance, of these words.
func (c *chance) input(most int, words ...string) string {
	var s strings.Builder
	for range c.below(most + 1) {
		for range c.below(4) {
			s.WriteString(oneOf(c, words...) + strings.Repeat(" ", c.below(3)) + " ")
		}
		s.WriteString("\n")
	}
	return strings.TrimSuffix(s.String(), oneOf(c, "\n", "no"))
}

// The second rule: what the chapter says, in another way

// slowLines takes a line's bytes one by one.
func slowLines(input string) []string {
	var lines []string
	open := false
	for i := range len(input) {
		if !open {
			lines = append(lines, "")
		}
		if open = input[i] != '\n'; open {
			lines[len(lines)-1] += input[i : i+1]
		}
	}
	return lines
}

// slowTask is the task of a line: the first one whose lines don't end ahead of it.
func slowTask(line, lines, tasks int) int {
	task := 0
	for (task+1)*lines < (line+1)*tasks {
		task++
	}
	return task
}

// slowSort lays each pair down behind all that don't come behind it.
func slowSort(l []api.Pair) []api.Pair {
	var sorted []api.Pair
	for _, p := range l {
		at := len(sorted)
		for at > 0 && slices.Compare([]byte(p.Key), []byte(sorted[at-1].Key)) < 0 {
			at--
		}
		sorted = slices.Insert(sorted, at, p)
	}
	return sorted
}

// slowMeet lets each pair of a sorted list meet the one that its key has.
func slowMeet(l []api.Pair, meet func(key string, out, v api.Value) (api.Value, api.Errno)) ([]api.Pair, api.Errno) {
	var met []api.Pair
	for _, p := range l {
		last := len(met) - 1
		if last < 0 || met[last].Key != p.Key {
			met = append(met, p)
			continue
		}
		v, e := meet(p.Key, met[last].Val, p.Val)
		if e != api.OK {
			return nil, e
		}
		met[last].Val = v
	}
	return met, api.OK
}

// slowFold is a list, its groups folded.
func slowFold(l []api.Pair, word string) ([]api.Pair, api.Errno) {
	return slowMeet(l, func(_ string, out, v api.Value) (api.Value, api.Errno) { return job.Fold(word, out, v) })
}

// slowBytes is a list's bytes.
func slowBytes(l []api.Pair) string {
	var s strings.Builder
	s.WriteString(tape.Num(len(l)))
	for _, p := range l {
		s.WriteString(tape.Text(p.Key) + value.Bytes(p.Val))
	}
	return s.String()
}

// slowLists is, for each part, the list of a task as its lines lay it down.
func slowLists(j job.Job, lines []string, task int) ([][]api.Pair, api.Errno) {
	lists := make([][]api.Pair, j.Parts)
	for i, line := range lines {
		if slowTask(i, len(lines), j.Tasks) != task {
			continue
		}
		r, e := eval.Run(j.Map, eval.Env{Key: fmt.Sprint(i), Val: txt(line), Acc: num(0)}, j.Fuel)
		if e != api.OK {
			return nil, e
		}
		for _, p := range r.Out {
			part, e := job.Part(j, p.Key)
			if e != api.OK {
				return nil, e
			}
			lists[part] = append(lists[part], p)
		}
	}
	return lists, api.OK
}

// slowMap is what Map answers, of a right job, a right input, and a task of it.
func slowMap(j job.Job, input string, task int) ([]string, api.Errno) {
	lists, e := slowLists(j, slowLines(input), task)
	if e != api.OK {
		return nil, e
	}
	var spills []string
	for _, l := range lists {
		l = slowSort(l)
		if j.Combine {
			if l, e = slowFold(l, j.Fold); e != api.OK {
				return nil, e
			}
		}
		spills = append(spills, slowBytes(l))
		if len(spills[len(spills)-1]) > mostList {
			return nil, api.ErrLarge
		}
	}
	return spills, api.OK
}

// slowReduce is what Reduce answers, of a right job and as many lists as it has tasks.
func slowReduce(j job.Job, lists ...[]api.Pair) (string, api.Errno) {
	l := slowSort(slices.Concat(lists...))
	l, e := slowMeet(l, func(key string, out, v api.Value) (api.Value, api.Errno) {
		if j.Fold != "" {
			return job.Fold(j.Fold, out, v)
		}
		r, e := eval.Run(j.Reduce, eval.Env{Key: key, Val: v, Acc: out}, j.Fuel)
		return r.V, e
	})
	if e != api.OK {
		return "", e
	}
	if s := slowBytes(l); len(s) <= mostList {
		return s, api.OK
	}
	return "", api.ErrLarge
}

// slowWhole is what a right job comes to, of a right input.
func slowWhole(j job.Job, input string) Outcome {
	lists := make([][][]api.Pair, j.Parts)
	for task := range j.Tasks {
		spills, e := slowMap(j, input, task)
		if e != api.OK {
			return Outcome{E: e}
		}
		for part, spill := range spills {
			l, _ := pairs.Read(spill)
			lists[part] = append(lists[part], l)
		}
	}
	var o Outcome
	for _, l := range lists {
		s, e := slowReduce(j, l...)
		if e != api.OK {
			return Outcome{E: e}
		}
		o.Parts = append(o.Parts, s)
	}
	return o
}

// What tests ask

// laid is the bytes of lists.
func laid(lists ...[]api.Pair) []string {
	var l []string
	for _, x := range lists {
		l = append(l, slowBytes(x))
	}
	return l
}

// maps asks whether a task comes to these lists.
func maps(t *testing.T, j job.Job, input string, task int, want ...[]api.Pair) {
	t.Helper()
	if l, e := Map(j, input, task); e != api.OK || !slices.Equal(l, laid(want...)) {
		t.Errorf("Map of %s, task %d, by %s = %s, %d, want %s", clip(input), task, clip(j), clip(l), e, clip(laid(want...)))
	}
}

// noMap asks whether a task has an error, with nothing beside it.
func noMap(t *testing.T, j job.Job, input string, task int, want api.Errno) {
	t.Helper()
	if l, e := Map(j, input, task); len(l) != 0 || e != want {
		t.Errorf("Map of %s, task %d, by %s = %s, %d, want %d", clip(input), task, clip(j), clip(l), e, want)
	}
}

// reduces asks whether the lists of all tasks come to this one.
func reduces(t *testing.T, j job.Job, want []api.Pair, lists ...[]api.Pair) {
	t.Helper()
	if s, e := Reduce(j, laid(lists...)); e != api.OK || s != slowBytes(want) {
		t.Errorf("Reduce of %s by %s = %s, %d, want %s", clip(lists), clip(j), clip(s), e, clip(slowBytes(want)))
	}
}

// noReduce asks whether spills have an error, with nothing beside it.
func noReduce(t *testing.T, j job.Job, want api.Errno, spills ...string) {
	t.Helper()
	if s, e := Reduce(j, spills); s != "" || e != want {
		t.Errorf("Reduce of %s by %s = %s, %d, want %d", clip(spills), clip(j), clip(s), e, want)
	}
}

// comesTo asks whether a job comes to these parts.
func comesTo(t *testing.T, j job.Job, input string, want ...[]api.Pair) {
	t.Helper()
	if o := Whole(j, input); o.E != api.OK || !slices.Equal(o.Parts, laid(want...)) {
		t.Errorf("Whole of %s by %s = %s, want %s", clip(input), clip(j), clip(o), clip(laid(want...)))
	}
}

// fails asks whether a job comes to an error, with nothing beside it.
func fails(t *testing.T, j job.Job, input string, want api.Errno) {
	t.Helper()
	if o := Whole(j, input); o.E != want || len(o.Parts) != 0 {
		t.Errorf("Whole of %s by %s = %s, want %d", clip(input), clip(j), clip(o), want)
	}
}

// isAsTheChapterSays holds all calls against the second rule, and answers what the job comes to.
func isAsTheChapterSays(t *testing.T, j job.Job, input string) Outcome {
	t.Helper()
	lists := make([][]string, j.Parts)
	failed := false
	for task := range j.Tasks {
		l, e := Map(j, input, task)
		want, wantError := slowMap(j, input, task)
		if e != wantError || !slices.Equal(l, want) {
			t.Fatalf("Map of %s, task %d, by %s = %s, %d, want %s, %d", clip(input), task, clip(j), clip(l), e, clip(want), wantError)
		}
		failed = failed || e != api.OK
		for part, s := range l {
			lists[part] = append(lists[part], s)
		}
	}
	for part := 0; part < j.Parts && !failed; part++ {
		var read [][]api.Pair
		for _, s := range lists[part] {
			l, _ := pairs.Read(s)
			read = append(read, l)
		}
		s, e := Reduce(j, lists[part])
		if want, wantError := slowReduce(j, read...); s != want || e != wantError {
			t.Fatalf("Reduce of %s by %s = %s, %d, want %s, %d", clip(read), clip(j), clip(s), e, clip(want), wantError)
		}
	}
	o, want := Whole(j, input), slowWhole(j, input)
	if o.E != want.E || !slices.Equal(o.Parts, want.Parts) {
		t.Fatalf("Whole of %s by %s = %s, want %s", clip(input), clip(j), clip(o), clip(want))
	}
	return o
}

// 13.1: Right and Lines

func TestKnownLines(t *testing.T) {
	for _, c := range []struct {
		input string
		want  []string
	}{
		{"", nil}, {"\n", []string{""}}, {"a", []string{"a"}}, {"a\n", []string{"a"}}, {"a\n\n", []string{"a", ""}}, {"\na", []string{"", "a"}}, {"\n\n", []string{"", ""}}, {"a\nb", []string{"a", "b"}}, {"a\nb\n", []string{"a", "b"}},
		// Nothing but a line feed ends a line, and nothing else is taken away.
		{" a \n\tb\t\n", []string{" a ", "\tb\t"}}, {"a\r\nb\r", []string{"a\r", "b\r"}}, {"a\x00b\vc\fd\u0085e\u2028f\n", []string{"a\x00b\vc\fd\u0085e\u2028f"}}, {"\xff\n\xe4\x0a\xc3", []string{"\xff", "\xe4", "\xc3"}}, {"a\\nb", []string{"a\\nb"}},
	} {
		if l := Lines(c.input); !slices.Equal(l, c.want) {
			t.Errorf("Lines of %q = %q, want %q", c.input, l, c.want)
		}
	}
}

func TestLinesAreAsTheChapterSays(t *testing.T) {
	inputs := []string{""}
	for range 9 {
		for _, s := range inputs[len(inputs)/2:] {
			inputs = append(inputs, s+"a", s+"\n")
		}
		for _, s := range inputs {
			if l := Lines(s); !slices.Equal(l, slowLines(s)) {
				t.Errorf("Lines of %q = %q, want %q", s, l, slowLines(s))
			}
		}
	}
	// Those of inputs that aren't right are told, too.
	for _, s := range wrongInputs() {
		want := strings.Split(s, "\n")
		if strings.HasSuffix(s, "\n") {
			want = want[:len(want)-1]
		}
		if l := Lines(s); !slices.Equal(l, want) {
			t.Errorf("Lines of %s = %s", clip(s), clip(l))
		}
	}
}

// rightInputs is right inputs, out to the edges.
func rightInputs() []string {
	long := strings.Repeat("x", mostLine)
	return []string{
		"", "\n", "a", "a\n", "a\nb", "a\n\nb\n", "\x00\xff",
		strings.Repeat(strings.Repeat("x", 1023)+"\n", 64), strings.Repeat(strings.Repeat("x", 4095)+"\n", 16), strings.Repeat(long+"\n", 15) + strings.Repeat("x", mostInput-15*(mostLine+1)),
		strings.Repeat("\n", mostLines), strings.Repeat("\n", mostLines-1) + "x", strings.Repeat("x\n", mostLines), strings.Repeat("x\n", mostLines-1) + "x",
		long, long + "\n", "a\n" + long + "\nb\n", "\n" + long, long + "\n" + long, strings.Repeat("\n", mostLines-1) + long + "\n",
	}
}

func TestRight(t *testing.T) {
	for _, s := range rightInputs() {
		if !Right(s) {
			t.Errorf("%s, of %d bytes, isn't right", clip(s), len(s))
		}
	}
	for _, s := range wrongInputs() {
		if Right(s) {
			t.Errorf("%s, of %d bytes, is right", clip(s), len(s))
		}
	}
	for size := mostLine - 3; size < mostLine+3; size++ {
		for _, around := range [][2]string{{}, {"", "\n"}, {"\n", ""}, {"a\n", "\nb"}, {"", "\n\n"}} {
			if s := around[0] + strings.Repeat("l", size) + around[1]; Right(s) != (size <= mostLine) {
				t.Errorf("with a line of %d bytes Right = %v", size, Right(s))
			}
		}
	}
	for n := range 2 * mostLines {
		if s := strings.Repeat("l\n", n); Right(s) != (n <= mostLines) || Right(s+"l") != (n < mostLines) {
			t.Errorf("of %d lines Right = %v, with another one %v", n, Right(s), Right(s+"l"))
		}
	}
}

// 13.1: Span

func TestEachLineIsOfOneTask(t *testing.T) {
	for _, lines := range []int{0, 1, 2, 3, 4, 5, 6, 7, 8, 9, 10, 11, 12, 13, 14, 15, 16, 17, 18, 19, 23, 24, 31, 32, 33, 47, 48, 49, 63, 64, 65, 99, 100, 255, 256, 511, 998, 999, mostLines} {
		input := strings.Repeat("l\n", lines)
		for tasks := 1; tasks <= mostTasks; tasks++ {
			j := folding(tasks, 1, "val", "", "sum")
			met := make([]int, lines)
			end := 0
			for task := range tasks {
				from, to, ok := Span(j, input, task)
				if !ok || from != end || to < from || to > lines {
					t.Fatalf("of %d lines the task %d of %d has %d to %d, %v", lines, task, tasks, from, to, ok)
				}
				for line := from; line < to; line++ {
					met[line]++
					if slowTask(line, lines, tasks) != task {
						t.Errorf("of %d lines the line %d is of the task %d of %d", lines, line, task, tasks)
					}
				}
				end = to
			}
			if end != lines || slices.ContainsFunc(met, func(n int) bool { return n != 1 }) {
				t.Errorf("of %d lines %d tasks have %v", lines, tasks, met)
			}
		}
	}
}

func TestKnownSpans(t *testing.T) {
	for _, c := range []struct{ lines, tasks, task, from, to int }{
		{0, 1, 0, 0, 0}, {0, 3, 2, 0, 0}, {1, 1, 0, 0, 1}, {1, 3, 0, 0, 0}, {1, 3, 1, 0, 0}, {1, 3, 2, 0, 1}, {2, 3, 0, 0, 0}, {2, 3, 1, 0, 1}, {2, 3, 2, 1, 2},
		{4, 3, 0, 0, 1}, {4, 3, 1, 1, 2}, {4, 3, 2, 2, 4}, {10, 4, 0, 0, 2}, {10, 4, 1, 2, 5}, {10, 4, 2, 5, 7}, {10, 4, 3, 7, 10}, {1000, 16, 0, 0, 62}, {1000, 16, 1, 62, 125}, {1000, 16, 15, 937, 1000}, {1000, 7, 6, 857, 1000},
	} {
		from, to, ok := Span(folding(c.tasks, 1, "val", "", "sum"), strings.Repeat("\n", c.lines), c.task)
		if from != c.from || to != c.to || !ok {
			t.Errorf("of %d lines the task %d of %d has %d to %d, %v, want %d to %d", c.lines, c.task, c.tasks, from, to, ok, c.from, c.to)
		}
	}
}

// noTasks is numbers that no task of a job with so many has.
func noTasks(tasks int) []int {
	return []int{-1, -2, -tasks, tasks, tasks + 1, 2 * tasks, 1 << 32, -1 << 32, math.MinInt, math.MaxInt}
}

func TestNoSpan(t *testing.T) {
	noSpan := func(j job.Job, input string, task int) {
		t.Helper()
		if from, to, ok := Span(j, input, task); from != 0 || to != 0 || ok {
			t.Errorf("Span of %s, task %d, by %s = %d, %d, %v", clip(input), task, clip(j), from, to, ok)
		}
	}
	for tasks := 1; tasks <= mostTasks; tasks++ {
		j := folding(tasks, 1, "val", "", "sum")
		for _, task := range noTasks(tasks) {
			noSpan(j, "a\nb\nc\n", task)
		}
		for _, input := range wrongInputs() {
			noSpan(j, input, tasks-1)
		}
	}
	for _, jobs := range wrongJobs() {
		for _, j := range jobs {
			for _, task := range []int{0, 1, 2, -1, math.MinInt} {
				noSpan(j, "a\nb\nc\n", task)
			}
		}
	}
}

// 13.1: Map

func TestKnownMaps(t *testing.T) {
	j := folding(2, 1, countWords, "", "sum")
	maps(t, j, "b a b\nc\n", 0, list("a", 1, "b", 1, "b", 1))
	maps(t, j, "b a b\nc\n", 1, list("c", 1))
	maps(t, combining(j), "b a b\nc\n", 0, list("a", 1, "b", 2))
	maps(t, combining(j), "b a b\nc", 1, list("c", 1))
	maps(t, j, "", 0, nil)
	maps(t, j, "a", 0, nil)
	maps(t, combining(j), "\n  \n", 1, nil)
	// A list for each part, also for one that nothing goes to.
	j = folding(1, 4, countWords, `(len key)`, "sum")
	maps(t, j, "bbb a ab\nbb a", 0, nil, list("a", 1, "a", 1), list("ab", 1, "bb", 1), list("bbb", 1))
	maps(t, combining(j), "abcdef a bb a", 0, nil, list("a", 2), list("abcdef", 1, "bb", 1), nil)
	// A line that lays nothing down, whatever it comes to.
	maps(t, folding(1, 2, `(cat val val)`, "", "sum"), "a\nb\n", 0, nil, nil)
}

func TestPairsOfOneKeyStayAsTheyStood(t *testing.T) {
	j := reducing(1, 1, tell, "", "acc")
	maps(t, j, "bTz aN2\naTx bP5\n\nzN1 aN1 \x80Tk", 0, list("a", 2, "a", "x", "a", 1, "b", "z", "b", spot(5, 1), "z", 1, "\x80", "k"))
}

func TestWhatStandsForNames(t *testing.T) {
	// key is the line's number in the input, not in the task.
	j := folding(3, 1, `(emit key val)`, "", "max")
	input := "a\nb\r\n\n d \ne\nf\ng\nh\ni\nj\nk\nl"
	maps(t, j, input, 0, list("0", "a", "1", "b\r", "2", "", "3", " d "))
	maps(t, j, input, 1, list("4", "e", "5", "f", "6", "g", "7", "h"))
	maps(t, j, input, 2, list("10", "k", "11", "l", "8", "i", "9", "j"))
	maps(t, folding(1, 1, `(emit (text i) it)`, "", "max"), "a\nb", 0, list("0", 0, "0", 0))
	thousand := strings.Repeat("\n", mostLines)
	if l, e := Map(folding(16, 1, `(emit key 1)`, "", "sum"), thousand, 15); e != api.OK || !strings.Contains(l[0], "\x03937") || !strings.Contains(l[0], "\x03999") {
		t.Errorf("Map of the last lines = %s, %d", clip(l), e)
	}
}

func TestEachPairGoesToItsKeysPart(t *testing.T) {
	words := strings.Fields("a b ab ba the cat mat 123456789 \x00 \xff ä z zz zzz")
	input := strings.Join(words, "\n")
	for parts := 1; parts <= 16; parts++ {
		bySum, byLength := make([][]api.Pair, parts), make([][]api.Pair, parts)
		for i, word := range words {
			sum, length := int(crc32.ChecksumIEEE([]byte(word)))%parts, (16*parts-len(word))%parts
			bySum[sum], byLength[length] = append(bySum[sum], pair(word, num(i))), append(byLength[length], pair(word, num(i)))
		}
		for part := range parts {
			bySum[part], byLength[part] = slowSort(bySum[part]), slowSort(byLength[part])
		}
		maps(t, folding(1, parts, `(emit val (num key))`, "", "sum"), input, 0, bySum...)
		maps(t, folding(1, parts, `(emit val (num key))`, `(neg (len key))`, "sum"), input, 0, byLength...)
	}
}

func TestATaskFoldsOnlyIfTheJobCombines(t *testing.T) {
	for _, c := range []struct {
		word  string
		folds []api.Pair
	}{
		{"sum", list("a", 50, "b", 4, "c", -1)}, {"max", list("a", 30, "b", 4, "c", 9)}, {"min", list("a", 8, "b", 4, "c", -10)}, {"gcd", list("a", 2, "b", 4, "c", 1)},
	} {
		j := folding(1, 1, tell, "", c.word)
		input := "cN-10 aN12 bN4\naN30 cN9 aN8"
		maps(t, j, input, 0, list("a", 12, "a", 30, "a", 8, "b", 4, "c", -10, "c", 9))
		maps(t, combining(j), input, 0, c.folds)
		// A single value is as it is.
		maps(t, combining(j), "aN-4 bTtext\ncP-2", 0, list("a", -4, "b", "text", "c", spot(-2, 1)))
	}
}

func TestEachLineHasItsFuel(t *testing.T) {
	j := folding(1, 1, countWords, "", "sum")
	for fuel, want := range map[int]api.Errno{17: api.ErrFuel, 18: api.OK, 19: api.OK} {
		j.Fuel = fuel
		for _, input := range []string{"a b c", "a b c\na b c\na b c\n", "\na\na b c"} {
			if _, e := Map(j, input, 0); e != want {
				t.Errorf("Map of %q with %d steps = %d, want %d", input, fuel, e, want)
			}
		}
	}
	// And so has each key.
	j = folding(1, 1, `(emit "k" 1)`, `(add (add (len key) 1) (add 1 1))`, "sum")
	for fuel, want := range map[int]api.Errno{2: api.ErrFuel, 3: api.ErrFuel, 7: api.ErrFuel, 8: api.OK} {
		j.Fuel = fuel
		if _, e := Map(j, "a\nb\nc", 0); e != want {
			t.Errorf("Map with a By, with %d steps = %d, want %d", fuel, e, want)
		}
	}
}

func TestTheFirstErrorOfATask(t *testing.T) {
	by := `(if (same key "z") (div 1 0) (if (same key "t") key (if (same key "n") (num key) 1)))`
	j := folding(1, 2, tell, by, "sum")
	for _, j := range []job.Job{j, combining(j)} {
		for input, want := range map[string]api.Errno{
			"aNx": api.ErrForm, "aQ1": api.ErrZero, "aP99999999": api.ErrRange, "a": api.ErrRange, "zN1": api.ErrZero, "tN1": api.ErrType, "nN1": api.ErrForm,
			strings.Repeat("aN1 ", 65): api.ErrMany,
			// Line by line.
			"aN1\naNx\naQ1": api.ErrForm, "aN1\naQ1\naNx": api.ErrZero, "aN1\n\naP99999999\naQ1\n": api.ErrRange,
			// A line's run, then its pairs, in order.
			"zN1 aNx": api.ErrForm, "aN1\ntN1 aQ1": api.ErrZero, "tN1 zN1": api.ErrType, "zN1 tN1": api.ErrZero, "aN1 nN1 tN1": api.ErrForm,
			// A line's pairs ahead of the next line.
			"aN1 zN1\naNx": api.ErrZero, "tN1\nzN1": api.ErrType, "aN1 tN1\naQ1": api.ErrType,
			// All lines ahead of folds.
			"aN1 aTx\nzN1": api.ErrZero, "aN1 aTx\nbN1 bP1\naNx": api.ErrForm,
		} {
			noMap(t, j, input, 0, want)
		}
		maps(t, j, "aN1", 0, nil, list("a", 1))
	}
	maps(t, j, "aN1 aTx", 0, nil, list("a", 1, "a", "x"))
	noMap(t, combining(j), "aN1 aTx", 0, api.ErrType)
	noMap(t, combining(j), "aTx aTx", 0, api.ErrType)
}

func TestOnlyATasksLinesAreRun(t *testing.T) {
	j := folding(3, 1, tell, "", "sum")
	input := "aN1\naNx\naQ1"
	maps(t, j, input, 0, list("a", 1))
	noMap(t, j, input, 1, api.ErrForm)
	noMap(t, j, input, 2, api.ErrZero)
}

// longLines is so many long lines, each with another key and the same second letter.
func longLines(first byte, size int) string {
	var s string
	for i := range size {
		s += string(first+byte(i)) + "T" + strings.Repeat("x", 4090) + "\n"
	}
	return s
}

func TestTheFirstErrorAtTheEnd(t *testing.T) {
	j := combining(folding(1, 2, repeat, `(less "m" (cut key 0 1))`, "max"))
	large, largeNext, unlike, unlikeNext := longLines('b', 3), longLines('n', 3), "aN\naT\n", "zN\nzT\n"
	for _, c := range []struct {
		input string
		want  api.Errno
	}{
		{large, api.ErrLarge}, {largeNext, api.ErrLarge}, {unlike, api.ErrType}, {unlikeNext, api.ErrType},
		// Of one part the fold comes first; of two the part.
		{large + unlike, api.ErrType}, {largeNext + unlikeNext, api.ErrType}, {large + unlikeNext, api.ErrLarge}, {unlikeNext + large, api.ErrLarge}, {largeNext + unlike, api.ErrType}, {unlike + largeNext, api.ErrType}, {large + largeNext, api.ErrLarge},
		// Lines come ahead of both.
		{large + unlike + "\n", api.ErrRange}, {"a\n" + largeNext, api.ErrRange},
	} {
		noMap(t, j, c.input, 0, c.want)
		fails(t, j, c.input, c.want)
	}
	plain := with(j, func(j *job.Job) { j.Combine = false })
	noMap(t, plain, unlike+largeNext, 0, api.ErrLarge)
	noMap(t, plain, large+unlikeNext, 0, api.ErrLarge)
	maps(t, plain, unlike+unlikeNext, 0, list("a", 1, "a", "aT"), list("z", 1, "z", "zT"))
}

// filling is an input whose lines, laid down by repeat, have so many bytes more than a list may have.
func filling(t *testing.T, j job.Job, more int) string {
	t.Helper()
	long := "T" + strings.Repeat("x", 4087) + "\n"
	input := "a" + long + "b" + long + "c" + strings.Repeat("x", 13+more)
	lists, e := slowLists(j, slowLines(input), 0)
	if e != api.OK || len(slowBytes(lists[0])) != mostList+more {
		t.Fatalf("the input fills %d bytes, %d", len(slowBytes(lists[0])), e)
	}
	return input
}

func TestAListThatIsJustNotTooLarge(t *testing.T) {
	j := folding(1, 1, repeat, "", "max")
	for _, j := range []job.Job{j, combining(j)} {
		for more := -10; more <= 0; more++ {
			input := filling(t, j, more)
			l, e := Map(j, input, 0)
			if e != api.OK || len(l) != 1 || len(l[0]) != mostList+more {
				t.Errorf("Map of a list of %d bytes = %s, %d", mostList+more, clip(l), e)
			}
		}
		for more := 1; more < 40; more++ {
			noMap(t, j, filling(t, j, more), 0, api.ErrLarge)
		}
	}
}

func TestAListIsFoldedAheadOfBeingTooLarge(t *testing.T) {
	j := folding(1, 1, `(each 64 (emit "k" val))`, "", "max")
	input := strings.Repeat(strings.Repeat("x", mostLine)+"\n", 15)
	noMap(t, j, input, 0, api.ErrLarge)
	maps(t, combining(j), input, 0, list("k", strings.Repeat("x", mostLine)))
	fails(t, j, input, api.ErrLarge)
	comesTo(t, combining(j), input, list("k", strings.Repeat("x", mostLine)))
	// It is of each part that there is a bound, not of all.
	j = folding(1, 16, `(each 64 (emit (text i) val))`, `(num key)`, "max")
	for part, s := range Whole(j, input).Parts {
		if l, e := pairs.Read(s); e != api.OK || len(l) != 4 {
			t.Errorf("the part %d is %s, %d", part, clip(l), e)
		}
	}
}

func TestMapRefuses(t *testing.T) {
	bad := "a\n" + strings.Repeat("x", mostLine+1)
	for want, jobs := range wrongJobs() {
		for _, j := range jobs {
			for _, task := range []int{0, 1, 2, -1, math.MaxInt} {
				noMap(t, j, "a b\nc\n", task, want)
				noMap(t, j, bad, task, want)
			}
		}
	}
	for tasks := 1; tasks <= mostTasks; tasks++ {
		j := folding(tasks, 2, `(div 1 0)`, "", "sum")
		for _, task := range noTasks(tasks) {
			noMap(t, j, strings.Repeat("a\n", 20), task, api.ErrNone)
			noMap(t, j, bad, task, api.ErrLarge)
		}
		noMap(t, j, bad, tasks-1, api.ErrLarge)
		noMap(t, j, strings.Repeat("a\n", 20), tasks-1, api.ErrZero)
	}
	for _, input := range wrongInputs() {
		noMap(t, folding(2, 1, `1`, "", "sum"), input, 1, api.ErrLarge)
	}
	for _, input := range rightInputs() {
		maps(t, folding(1, 1, `val`, "", "sum"), input, 0, nil)
	}
}

// 13.2: Reduce

func TestKnownReduces(t *testing.T) {
	for _, c := range []struct {
		reduce string
		lists  [][]api.Pair
		want   []api.Pair
	}{
		{"acc", [][]api.Pair{nil, nil}, nil},
		// A single value comes out as it is, and Reduce isn't run.
		{"(div 1 0)", [][]api.Pair{list("a", 1, "c", "x"), list("b", spot(1, 2))}, list("a", 1, "b", spot(1, 2), "c", "x")},
		// The first one is acc, the others are val, in order; lists in the tasks' order.
		{"(sub acc val)", [][]api.Pair{list("a", 10, "a", 3, "b", 1), list("a", 2, "b", 5)}, list("a", 5, "b", -4)},
		{"(cat acc val)", [][]api.Pair{list("k", "c", "k", "a"), list("k", "d", "k", "b")}, list("k", "cadb")},
		{"(cat val acc)", [][]api.Pair{list("k", "c", "k", "a"), list("k", "d", "k", "b")}, list("k", "bdac")},
		{"acc", [][]api.Pair{nil, list("k", 3, "k", 1, "k", "x")}, list("k", 3)},
		{"val", [][]api.Pair{list("k", 3, "k", 1, "k", "x"), nil}, list("k", "x")},
		{`(cat key (cat acc (text i)))`, [][]api.Pair{list("k", "x", "l", "y"), list("l", "z", "k", 1)}, list("k", "kx0", "l", "ly0")},
		{`(add it (add acc val))`, [][]api.Pair{list("k", 1, "k", 2), list("k", 3)}, list("k", 6)},
		// What comes out may be of another kind.
		{`(text (if (same acc 1) val 7))`, [][]api.Pair{list("k", 1, "k", 2), list("k", 3)}, list("k", "7")},
		// Lists that aren't in order, or of another part, are joined as all are.
		{"(cat acc val)", [][]api.Pair{list("c", "1", "a", "2", "c", "3"), list("b", "4", "a", "5", "", "6")}, list("", "6", "a", "25", "b", "4", "c", "13")},
	} {
		j := reducing(2, 3, "val", "", c.reduce)
		reduces(t, j, c.want, c.lists...)
	}
}

func TestKnownFolds(t *testing.T) {
	for _, c := range []struct {
		word  string
		lists [][]api.Pair
		want  []api.Pair
	}{
		{"sum", [][]api.Pair{nil, nil}, nil},
		{"sum", [][]api.Pair{list("a", 1, "b", 2), list("a", 3, "a", 4)}, list("a", 8, "b", 2)},
		{"max", [][]api.Pair{list("a", "x", "b", 2), list("b", 3, "a", "xa")}, list("a", "xa", "b", 3)},
		{"min", [][]api.Pair{list("a", spot(1, 2), "b", 2), list("b", 3, "a", spot(1, -2))}, list("a", spot(1, -2), "b", 2)},
		{"gcd", [][]api.Pair{list("a", -4, "b", 0, "c", -9), list("b", 0, "a", 6)}, list("a", 2, "b", 0, "c", -9)},
		{"sum", [][]api.Pair{list("a", 1<<53, "b", 1<<53, "c", "x"), list("b", 0)}, list("a", 1<<53, "b", -1<<53, "c", "x")},
		{"sum", [][]api.Pair{list("c", 1, "a", 2, "c", 3), list("b", 4, "a", 5, "", 6)}, list("", 6, "a", 7, "b", 4, "c", 4)},
	} {
		j := folding(2, 3, "val", "", c.word)
		reduces(t, j, c.want, c.lists...)
		reduces(t, combining(j), c.want, c.lists...)
	}
}

func TestEachReduceHasItsFuel(t *testing.T) {
	j := reducing(1, 1, "val", "", "(add acc val)")
	l := list("a", 1, "a", 2, "a", 3, "b", 1, "b", 1, "c", 7)
	for fuel := 3; fuel < 6; fuel++ {
		j.Fuel = fuel
		reduces(t, j, list("a", 6, "b", 2, "c", 7), l)
	}
	for fuel := 1; fuel < 3; fuel++ {
		j.Fuel = fuel
		noReduce(t, j, api.ErrFuel, laid(l)...)
		reduces(t, j, list("a", 1, "b", 1), list("a", 1, "b", 1))
	}
}

func TestTheFirstErrorOfAPart(t *testing.T) {
	j := reducing(1, 1, "val", "", "(div acc val)")
	zero, text, far := list("a", 1, "a", 0), list("b", 1, "b", "x"), list("c", 1<<53, "c", -1, "c", 0)
	noReduce(t, j, api.ErrZero, laid(slices.Concat(zero, text))...)
	noReduce(t, j, api.ErrType, laid(text)...)
	noReduce(t, j, api.ErrZero, laid(slices.Concat(text, far, zero))...)
	noReduce(t, j, api.ErrType, laid(slices.Concat(far, text))...)
	noReduce(t, j, api.ErrZero, laid(far)...)
	noReduce(t, j, api.ErrType, laid(list("k", 1, "k", "x", "k", 0))...)
	noReduce(t, j, api.ErrZero, laid(list("k", 1, "k", 0, "k", "x"))...)
	for _, word := range []string{"sum", "max", "min", "gcd"} {
		noReduce(t, folding(1, 1, "val", "", word), api.ErrType, laid(list("a", 1, "a", 2, "b", 1, "b", "x"))...)
		noReduce(t, combining(folding(1, 1, "val", "", word)), api.ErrType, laid(list("a", 1, "a", 2, "b", 1, "b", spot(1, 1)))...)
	}
	noReduce(t, folding(1, 1, "val", "", "sum"), api.ErrType, laid(list("a", "x", "a", "y"))...)
}

// great is a list of so many bytes, around the bound, of keys that begin with a letter.
func great(letter string, bytes int) []api.Pair {
	sizes := append(slices.Repeat([]int{4096}, 127), 2000)
	// The last pair takes what is missing, but for the two bytes that tell how many there are.
	sizes = append(sizes, bytes-127*4096-2000-2)
	var l []api.Pair
	for i, size := range sizes {
		l = append(l, pair(letter+strconv.Itoa(1000+i), txt(strings.Repeat("x", size-9))))
	}
	return l
}

func TestAPartThatIsJustNotTooLarge(t *testing.T) {
	for _, j := range []job.Job{reducing(2, 1, "val", "", "acc"), folding(2, 1, "val", "", "max"), combining(folding(2, 1, "val", "", "min"))} {
		for more := -2; more <= 2; more++ {
			l := great("a", mostList+more)
			if len(slowBytes(l)) != mostList+more {
				t.Fatalf("the list has %d bytes, not %d", len(slowBytes(l)), mostList+more)
			}
			half := len(l) / 2
			if more <= 0 {
				reduces(t, j, slowSort(l), l[:half], l[half:])
				reduces(t, j, slowSort(l), nil, l)
				// What is handed in may be larger: it is what comes out that has a bound.
				reduces(t, j, slowSort(l), l, l)
			} else {
				noReduce(t, j, api.ErrLarge, laid(l[:half], l[half:])...)
				noReduce(t, j, api.ErrLarge, laid(l, nil)...)
			}
		}
		noReduce(t, j, api.ErrLarge, laid(great("a", mostList), great("b", mostList))...)
	}
	// The part's other errors come ahead.
	j := reducing(2, 1, "val", "", "(div acc val)")
	noReduce(t, j, api.ErrZero, laid(great("a", mostList), append(great("b", mostList), list("z", 1, "z", 0)...))...)
	noReduce(t, j, api.ErrLarge, laid(great("a", mostList), append(great("b", mostList), list("z", 1, "z", 1)...))...)
}

func TestReduceRefuses(t *testing.T) {
	for want, jobs := range wrongJobs() {
		for _, j := range jobs {
			for _, spills := range [][]string{nil, {""}, {"\x00", "\x00"}, {"", "", ""}} {
				noReduce(t, j, want, spills...)
			}
		}
	}
	good, unlike := slowBytes(list("a", 1)), slowBytes(list("a", 1, "a", "x"))
	for tasks := 1; tasks <= mostTasks; tasks++ {
		j := folding(tasks, 2, "val", "", "sum")
		for n := range mostTasks + 3 {
			if n == tasks {
				continue
			}
			// As many as there are parts aren't as many as there are tasks; what they are isn't looked at.
			for _, spill := range []string{good, unlike, "", "\x05"} {
				noReduce(t, j, api.ErrArg, slices.Repeat([]string{spill}, n)...)
			}
		}
		reduces(t, j, list("a", tasks), slices.Repeat([][]api.Pair{list("a", 1)}, tasks)...)
	}
}

func TestTheFirstErrorOfASpill(t *testing.T) {
	good, unlike := slowBytes(list("a", 1)), slowBytes(list("a", 1, "a", "x"))
	bad := map[string]api.Errno{
		"": api.ErrShort, "\x80": api.ErrShort, "\x01": api.ErrShort, "\x05": api.ErrLarge, "\x00x": api.ErrForm, "\x80\x00": api.ErrForm, good + "x": api.ErrForm, good[:len(good)-1]: api.ErrShort,
		"\x01\x41" + strings.Repeat("k", 65) + "\x00\x00\x00": api.ErrLarge, "\x01\x01k\x03\x00\x00": api.ErrForm, "\x01\x01k\x00\xff\xff\xff\xff\xff\xff\xff\xff": api.ErrForm,
	}
	for _, j := range []job.Job{folding(3, 1, "val", "", "sum"), reducing(3, 1, "val", "", "(div 1 0)")} {
		for s, want := range bad {
			noReduce(t, j, want, s, good, good)
			noReduce(t, j, want, good, s, good)
			noReduce(t, j, want, good, good, s)
			// Ahead of the part's error, also of one that the spills ahead of it have.
			noReduce(t, j, want, unlike, unlike, s)
			for other := range bad {
				noReduce(t, j, want, good, s, other)
				noReduce(t, j, want, s, other, unlike)
			}
		}
	}
}

// 13.2: Whole

func TestTheExamples(t *testing.T) {
	for tasks := 1; tasks <= mostTasks; tasks++ {
		j := folding(tasks, 1, countWords, "", "sum")
		for _, j := range []job.Job{j, combining(j)} {
			comesTo(t, j, "a b a", list("a", 2, "b", 1))
			comesTo(t, j, "a\nb\na\n", list("a", 2, "b", 1))
			comesTo(t, j, "", nil)
		}
		// A map that divides by a line's length, and an empty line.
		fails(t, folding(tasks, 1, `(emit val (div 1 (len val)))`, "", "sum"), "a\nb\n\nc\n", api.ErrZero)
	}
}

func TestKnownWholes(t *testing.T) {
	input := "the cat sat\non the mat\n\nas the old cats do\n"
	j := combining(folding(3, 2, countWords, `(len key)`, "sum"))
	comesTo(t, j, input, list("as", 1, "cats", 1, "do", 1, "on", 1), list("cat", 1, "mat", 1, "old", 1, "sat", 1, "the", 3))
	comesTo(t, j, "", nil, nil)
	// The longest line, and the sum of places as points.
	comesTo(t, folding(2, 1, `(emit "longest" (at (len val) (num key)))`, "", "max"), input, list("longest", spot(18, 3)))
	comesTo(t, folding(2, 1, `(emit "all" (at (len val) (num key)))`, "", "sum"), input, list("all", spot(39, 6)))
	// Lines in their order, whatever task they are of.
	for tasks := 1; tasks <= mostTasks; tasks++ {
		comesTo(t, reducing(tasks, 1, `(emit "k" val)`, "", `(cat acc (cat "," val))`), "c\na\nd\nb\na", list("k", "c,a,d,b,a"))
		comesTo(t, reducing(tasks, 3, `(emit val (num key))`, `(len key)`, `(sub acc val)`), "a\nbb\na\nccc\nbb\na\n", list("ccc", 3), list("a", -7), list("bb", -3))
	}
}

func TestTheFirstErrorOfAll(t *testing.T) {
	j := folding(3, 2, tell, `(if (same key "a") 0 (if (same key "b") 1 (div 1 0)))`, "sum")
	for input, want := range map[string]api.Errno{
		// Of the first task with one.
		"aN1\naNx\naQ1": api.ErrForm, "aN1\naQ1\naNx": api.ErrZero, "aN1\naN2\nzN1": api.ErrZero, "aP99999999\naQ1\naNx": api.ErrRange,
		// Of the first part with one; those of tasks come ahead.
		"aN1\naTx\naNy": api.ErrForm, "aN1\naTx\naN1": api.ErrType, "bN1\nbTx\naN1": api.ErrType,
	} {
		fails(t, j, input, want)
		fails(t, combining(j), input, want)
	}
	comesTo(t, j, "aN1\nbTx\naN2", list("a", 3), list("b", "x"))
	// What a task tells at its end comes ahead of the next one's first line; what a part tells ahead of the next part.
	large := combining(folding(2, 2, repeat, `(less "m" (cut key 0 1))`, "max"))
	fails(t, large, longLines('b', 3)+strings.Repeat("\n", 3), api.ErrLarge)
	fails(t, large, longLines('n', 3)+strings.Repeat("aN\n", 2)+"aT", api.ErrLarge)
	fails(t, large, "aN\nzN\nqN\naT\nzT\nqT", api.ErrType)
	j = reducing(2, 2, tell, `(if (same key "a") 0 1)`, `(div acc val)`)
	fails(t, j, "aN1 bN1\naN0 bTx", api.ErrZero)
	fails(t, j, "aN1 bN1\naTx bN0", api.ErrType)
	fails(t, j, "aN1 bN1\naN1 bN0", api.ErrZero)
	// A part that is too large, though no task's list is, and another error of it, or of the other part.
	j = reducing(2, 2, repeat, `(less "m" (cut key 0 1))`, `(if (same acc 1) (div acc 0) acc)`)
	for _, c := range []struct {
		first byte
		line  string
		want  api.Errno
	}{{'b', "1N", api.ErrZero}, {'b', "zN", api.ErrLarge}, {'n', "zN", api.ErrZero}, {'n', "1N", api.ErrZero}, {'b', "1T", api.ErrLarge}, {'n', "zT", api.ErrLarge}} {
		input := longLines(c.first, 1) + c.line + "\n" + longLines(c.first+1, 1) + c.line
		for task := range 2 {
			if _, e := Map(j, input, task); e != api.OK {
				t.Errorf("Map of %s = %d", clip(input), e)
			}
		}
		fails(t, j, input, c.want)
	}
	comesTo(t, reducing(2, 1, tell, "", "acc"), "aN1 bN1\naTx bN0", list("a", 1, "b", 1))
}

func TestWholeRefuses(t *testing.T) {
	for want, jobs := range wrongJobs() {
		for _, j := range jobs {
			fails(t, j, "a b\nc\n", want)
			fails(t, j, strings.Repeat("\n", mostLines+1), want)
		}
	}
	for _, input := range wrongInputs() {
		fails(t, folding(2, 1, `(div 1 0)`, "", "sum"), input, api.ErrLarge)
		fails(t, combining(folding(1, 1, `1`, "", "sum")), input, api.ErrLarge)
	}
	for _, input := range rightInputs() {
		comesTo(t, combining(folding(5, 1, `(len val)`, "", "sum")), input, nil)
	}
}

// All calls against the second rule

// someJobs is right jobs of chance for lines of words that tell takes.
func (c *chance) someJob() job.Job {
	mapper := oneOf(c, tell, tell, countWords, `(emit key val)`, `(emit "" (words val))`, `(each (len val) (emit (cut val i (len val)) (at i (num key))))`)
	by := oneOf(c, "", "", `(len key)`, `(neg (len key))`, `(if (same key "c") 1 -1)`, `(if (same key "d") key (len key))`)
	tasks, parts := 1+c.below(mostTasks), 1+c.below(mostTasks)
	if c.below(2) == 0 {
		return reducing(tasks, parts, mapper, by, oneOf(c, "acc", "val", `(add acc val)`, `(cat (text acc) (text val))`, `(div acc val)`, `(cat key (text (same acc val)))`))
	}
	j := folding(tasks, parts, mapper, by, oneOf(c, "sum", "max", "min", "gcd"))
	j.Combine = c.below(2) == 0
	return j
}

func TestAllIsAsTheChapterSays(t *testing.T) {
	var ch chance
	met := map[api.Errno]int{}
	for range 3000 {
		words := []string{"aN1", "aN-6", "bN9007199254740992", "bN4", "cN0", "cN12"}
		for range ch.below(4) {
			words = append(words, oneOf(&ch, "aTx", "bP3", "cNx", "d", "eP99999999", "\x80T\xff", "dN5", "aQ1"))
		}
		j := ch.someJob()
		j.Fuel = oneOf(&ch, 100000, 100000, 100000, 60)
		met[isAsTheChapterSays(t, j, ch.input(20, words...)).E]++
	}
	for _, e := range []api.Errno{api.OK, api.ErrFuel, api.ErrType, api.ErrRange, api.ErrZero, api.ErrForm} {
		if met[e] < 20 {
			t.Errorf("the error %d was met %d times", e, met[e])
		}
	}
}

func TestGreatInputs(t *testing.T) {
	var ch chance
	words := strings.Fields("the old mill by a stream that runs to sea and back again")
	for _, lines := range []int{999, mostLines} {
		var s strings.Builder
		counts := map[string]int{}
		for range lines {
			for range 10 {
				word := oneOf(&ch, words...)
				s.WriteString(word + " ")
				counts[word]++
			}
			s.WriteString("\n")
		}
		var want []api.Pair
		for word, n := range counts {
			want = append(want, pair(word, num(n)))
		}
		want = slowSort(want)
		for _, tasks := range []int{1, 3, 16} {
			j := folding(tasks, 1, countWords, "", "sum")
			comesTo(t, j, s.String(), want)
			comesTo(t, combining(j), s.String(), want)
		}
	}
}

// 13.3

// alikeWords is words whose values can be folded by a word, whichever are of one key.
func alikeWords(word string) []string {
	l := strings.Fields("aN1 aN-6 aN12 bN9007199254740992 bN-9007199254740992 bN4 cN0 eP3 eP-16777216 eP16777216 eP0")
	if word == "max" || word == "min" {
		l = append(l, strings.Fields("dTx dTxa dT dT\xff dT0")...)
	}
	return l
}

func TestAFoldComesToTheSame(t *testing.T) {
	var ch chance
	for _, word := range []string{"sum", "max", "min", "gcd"} {
		for range 40 {
			input, parts, by := ch.input(30, alikeWords(word)...), 1+ch.below(5), oneOf(&ch, "", `(if (same key "a") 0 1)`)
			want := Whole(folding(1, parts, tell, by, word), input)
			if want.E != api.OK || len(want.Parts) != parts {
				t.Fatalf("Whole of %s = %s", clip(input), clip(want))
			}
			for tasks := 1; tasks <= mostTasks; tasks++ {
				j := folding(tasks, parts, tell, by, word)
				for _, j := range []job.Job{j, combining(j)} {
					if o := Whole(j, input); o.E != api.OK || !slices.Equal(o.Parts, want.Parts) {
						t.Fatalf("Whole of %s by %s = %s, want %s", clip(input), clip(j), clip(o), clip(want))
					}
				}
			}
		}
	}
}

func TestReducingWhatIsMappedIsAll(t *testing.T) {
	var ch chance
	for range 300 {
		j, input := ch.someJob(), ch.input(20, "aN1", "bN2", "aN3")
		o := Whole(j, input)
		spills := make([][]string, j.Parts)
		for task := range j.Tasks {
			l, e := Map(j, input, task)
			if e != api.OK || len(l) != j.Parts {
				break
			}
			for part, s := range l {
				spills[part] = append(spills[part], s)
			}
		}
		if o.E == api.OK && len(o.Parts) != j.Parts {
			t.Errorf("Whole of %s by %s = %s", clip(input), clip(j), clip(o))
		}
		for part, want := range o.Parts {
			if s, e := Reduce(j, spills[part]); s != want || e != api.OK {
				t.Errorf("Reduce of the part %d = %s, %d, want %s", part, clip(s), e, clip(want))
			}
		}
	}
}

// Rules 1, 4 and 6

func TestSpillsOfChance(t *testing.T) {
	var ch chance
	for range 20000 {
		spill := make([]byte, ch.below(24))
		for i := range spill {
			spill[i] = byte(oneOf(&ch, 0, 1, 2, 3, 128, 255, ch.below(256)))
		}
		j := oneOf(&ch, folding(1, 1, "val", "", "sum"), reducing(1, 1, "val", "", "(div acc val)"))
		l, e := pairs.Read(string(spill))
		if e != api.OK {
			noReduce(t, j, e, string(spill))
			continue
		}
		if s, e := slowReduce(j, l); e != api.OK {
			noReduce(t, j, e, string(spill))
		} else if got, e := Reduce(j, []string{string(spill)}); got != s || e != api.OK {
			t.Errorf("Reduce of %q = %q, %d, want %q", spill, got, e, s)
		}
	}
}

// shares tells whether two texts have a byte of memory in common.
func shares(a, b string) bool {
	if a == "" || b == "" {
		return false
	}
	from, other := uintptr(unsafe.Pointer(unsafe.StringData(a))), uintptr(unsafe.Pointer(unsafe.StringData(b)))
	return from < other+uintptr(len(b)) && other < from+uintptr(len(a))
}

func TestWhatIsHandedOutIsNew(t *testing.T) {
	input := "aN1 aN2 bN3\nbN4 aN5\nbTx\ncTsome"
	spills := laid(list("a", "some text"), nil, list("b", "another text"))
	j := reducing(3, 3, tell, `(if (same key "a") 0 1)`, "acc")
	for name, answer := range map[string]func() []string{
		"Lines":           func() []string { return Lines(input) },
		"Lines of one":    func() []string { return Lines("one") },
		"Lines, unending": func() []string { return Lines("some\nlines") },
		"Map":             func() []string { l, _ := Map(j, input, 2); return l },
		"Reduce":          func() []string { s, _ := Reduce(j, spills); return []string{s} },
		"Whole":           func() []string { return Whole(j, input).Parts },
	} {
		a, b := answer(), answer()
		if !slices.Equal(a, b) || len(a) == 0 {
			t.Fatalf("%s = %s, %s", name, clip(a), clip(b))
		}
		for i, x := range a {
			for k, y := range a {
				if i != k && shares(x, y) {
					t.Errorf("%s: the texts %d and %d of the answer share memory", name, i, k)
				}
			}
			for _, y := range slices.Concat(b, spills, []string{input}) {
				if shares(x, y) {
					t.Errorf("%s: the text %d of the answer shares memory with an argument, or a later answer", name, i)
				}
			}
		}
		was := slices.Clone(b)
		clear(a[:cap(a)])
		if !slices.Equal(b, was) || !slices.Equal(answer(), was) {
			t.Errorf("%s: a later answer follows what is written into an earlier one", name)
		}
	}
}

func TestNothingFollowsItsArguments(t *testing.T) {
	bytes := []byte("some words\nin some lines\n")
	input := unsafe.String(&bytes[0], len(bytes))
	spill := []byte(slowBytes(list("key", "some text")))
	j := reducing(1, 1, `(emit val val)`, "", "acc")
	lines := Lines(input)
	mapped, _ := Map(j, input, 0)
	whole := Whole(j, input)
	reduced, _ := Reduce(j, []string{unsafe.String(&spill[0], len(spill))})
	for i := range bytes {
		bytes[i] = 'X'
	}
	for i := range spill {
		spill[i] = 'X'
	}
	if !slices.Equal(lines, []string{"some words", "in some lines"}) {
		t.Errorf("Lines = %q", lines)
	}
	want := laid(list("in some lines", "in some lines", "some words", "some words"))
	if !slices.Equal(mapped, want) || !slices.Equal(whole.Parts, want) {
		t.Errorf("Map = %q, Whole = %q, want %q", mapped, whole.Parts, want)
	}
	if reduced != slowBytes(list("key", "some text")) {
		t.Errorf("Reduce = %q", reduced)
	}
}

func TestWhatIsHandedInIsNotChanged(t *testing.T) {
	spare := expr.Node{Op: 29, V: num(77)}
	roomy := func(s string) []expr.Node { l := read(s); return append(l, spare)[:len(l)] }
	j := reducing(2, 2, tell, "", "acc")
	j.Map, j.By, j.Reduce = roomy(tell), roomy(`(len key)`), roomy(`(if (same acc val) acc val)`)
	was := [][]expr.Node{slices.Clone(j.Map), slices.Clone(j.By), slices.Clone(j.Reduce)}
	room := append(laid(list("b", 1, "a", 2), list("a", 3, "a", 4)), "spare", "more")
	wasRoom := slices.Clone(room)
	spills := room[:2]
	input := "bN1 aN2\naTx cN3"
	for range 2 {
		Span(j, input, 1)
		Map(j, input, 0)
		Whole(j, input)
		Reduce(j, spills)
		Reduce(j, room[:3])
	}
	for i, l := range [][]expr.Node{j.Map, j.By, j.Reduce} {
		if !slices.Equal(l, was[i]) || l[:len(l)+1][len(l)] != spare {
			t.Errorf("the job's expression %d was changed", i)
		}
	}
	if !slices.Equal(room, wasRoom) {
		t.Errorf("the spills were changed: %q", room)
	}
}

func TestCallsAtOneTime(t *testing.T) {
	var ch chance
	j, input := combining(folding(4, 3, tell, "", "sum")), ch.input(60, alikeWords("sum")...)
	want := Whole(j, input)
	done := make(chan bool)
	for range 8 {
		go func() {
			l, e := Map(j, input, 3)
			w, _ := slowMap(j, input, 3)
			done <- slices.Equal(Whole(j, input).Parts, want.Parts) && e == api.OK && slices.Equal(l, w)
		}()
	}
	for range 8 {
		if !<-done {
			t.Errorf("calls at one time hang on each other")
		}
	}
}
