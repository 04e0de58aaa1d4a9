package sorter

import (
	"fmt"
	"iter"
	"math"
	"math/big"
	"slices"
	"strconv"
	"strings"
	"testing"
	"unsafe"

	"stook/api"
)

const (
	// farInt is how far out a right number may be, farPart a part of a right point.
	farInt  = 1 << 53
	farPart = 1 << 24
)

func num(n int) api.Value     { return api.Value{Kind: 0, N: n} }
func txt(s string) api.Value  { return api.Value{Kind: 1, S: s} }
func spot(x, y int) api.Value { return api.Value{Kind: 2, P: api.Spot{X: x, Y: y}} }

func pair(key string, v api.Value) api.Pair { return api.Pair{Key: key, Val: v} }

// told is pairs that are told as words: the key, and behind a blank the number.
func told(words ...string) []api.Pair {
	l := make([]api.Pair, len(words))
	for i, word := range words {
		key, number, _ := strings.Cut(word, " ")
		n, err := strconv.Atoi(number)
		if err != nil {
			panic(err)
		}
		l[i] = pair(key, num(n))
	}
	return l
}

// counted is these keys, each with its place as its value.
func counted(keys ...string) []api.Pair {
	l := make([]api.Pair, len(keys))
	for i, key := range keys {
		l[i] = pair(key, num(i))
	}
	return l
}

// clip is something as a fault tells it.
func clip(v any) string {
	s := strconv.QuoteToASCII(fmt.Sprint(v))
	if len(s) > 500 {
		return s[:250] + ".." + s[len(s)-250:]
	}
	return s
}

// chance is a row of numbers that looks like chance and is the same each time.
type chance uint32

func (c *chance) below(n int) int {
	*c = *c*1664525 + 1013904223
	return int(*c>>16) % n
}

// list is a list of chance, of so many pairs, with these keys, and values of all kinds.
func (c *chance) list(size int, keys []string) []api.Pair {
	l := make([]api.Pair, size)
	for i := range l {
		values := []api.Value{num(c.below(1000) - 500), txt(strconv.Itoa(c.below(1000))), spot(c.below(100)-50, c.below(100)-50)}
		l[i] = pair(keys[c.below(len(keys))], values[c.below(3)])
	}
	return l
}

// edgeKeys is keys that are easily put in another order: by letters, by lengths, by the numbers that they are, by signs of bytes.
func edgeKeys() []string {
	return []string{
		"", "a", "aa", "ab", "abc", "b", "ba", "A", "Z", "ä", "€", "0", "1", "10", "2", "9", "-1", " ", "\n", "\x00", "\x00\x00", "a\x00", "a\xff", "\x7f", "\x80", "\xff", "\xff\xff",
		strings.Repeat("k", 63), strings.Repeat("k", 63) + "a", strings.Repeat("k", 63) + "\x80", strings.Repeat("k", 64), strings.Repeat("\x00", 64), strings.Repeat("\xff", 64),
	}
}

// rightPairs is right pairs, out to the edges.
func rightPairs() []api.Pair {
	l := counted(edgeKeys()...)
	for _, v := range []api.Value{
		num(0), num(-1), num(farInt), num(-farInt), num(farInt - 1), txt(""), txt("a"), txt("\xff\x00"), txt(strings.Repeat("x", 4095)), txt(strings.Repeat("x", 4096)),
		spot(0, 0), spot(1, -1), spot(farPart, farPart), spot(-farPart, farPart), spot(farPart, -farPart), spot(-farPart, -farPart),
	} {
		l = append(l, pair("", v), pair("a", v), pair(strings.Repeat("k", 64), v))
	}
	return l
}

// wrongPairs is pairs that aren't right: their keys too long, their values out of their range, too long, of no kind, with another kind's part.
func wrongPairs() []api.Pair {
	l := []api.Pair{pair(strings.Repeat("k", 65), num(1)), pair(strings.Repeat("k", 65), txt("a")), pair(strings.Repeat("\x00", 128), num(1)), pair(strings.Repeat("ä", 33), num(1)), pair(strings.Repeat("k", 1<<16), num(1))}
	for _, v := range []api.Value{
		num(farInt + 1), num(-farInt - 1), num(math.MaxInt), num(math.MinInt), txt(strings.Repeat("x", 4097)), txt(strings.Repeat("x", 1<<16)),
		spot(farPart+1, 0), spot(0, farPart+1), spot(-farPart-1, 0), spot(0, -farPart-1), spot(math.MinInt, math.MaxInt),
		{Kind: 3}, {Kind: -1}, {Kind: math.MaxInt}, {Kind: math.MinInt}, {Kind: 1 << 32},
		{Kind: 0, S: "a"}, {Kind: 0, P: api.Spot{X: 1}}, {Kind: 1, N: 1}, {Kind: 1, P: api.Spot{Y: 1}}, {Kind: 2, N: 1}, {Kind: 2, S: "a"},
	} {
		l = append(l, pair("", v), pair("a", v), pair(strings.Repeat("k", 64), v), pair(strings.Repeat("k", 65), v))
	}
	return l
}

// shortLists is all lists of up to so many pairs with these keys, each with its place as its value.
func shortLists(size int, keys ...string) [][]api.Pair {
	var l [][]api.Pair
	for n := range size + 1 {
		for _, row := range rows(n, len(keys)) {
			chosen := make([]string, n)
			for i, k := range row {
				chosen[i] = keys[k]
			}
			l = append(l, counted(chosen...))
		}
	}
	return l
}

// someLists is right lists: short ones, all right pairs, sorted, backwards, of one key, of few keys, of many.
func someLists() [][]api.Pair {
	all := rightPairs()
	backwards := slowSort(all)
	slices.Reverse(backwards)
	l := append(shortLists(4, "", "a", "b"), all, slowSort(all), backwards)
	var ch chance
	for size := range 40 {
		l = append(l, ch.list(size, edgeKeys()), ch.list(size, []string{"a", "b", "c"}), ch.list(size, []string{"one"}))
	}
	return append(l, ch.list(300, edgeKeys()), ch.list(300, []string{"\x7f", "\x80", "a"}))
}

// The second rule: what the chapter says, in another way

// slowSort lays each pair down behind all that don't come behind it.
func slowSort(l []api.Pair) []api.Pair {
	var sorted []api.Pair
	for _, p := range l {
		at := len(sorted)
		for at > 0 && slices.Compare([]byte(p.Key), []byte(sorted[at-1].Key)) < 0 {
			at--
		}
		sorted = slices.Insert(sorted, at, p)
	}
	return sorted
}

// slowRuns is a list in pieces of a room's size, each sorted.
func slowRuns(l []api.Pair, room int) [][]api.Pair {
	var runs [][]api.Pair
	for from := 0; from < len(l); from += room {
		runs = append(runs, slowSort(l[from:min(from+room, len(l))]))
	}
	return runs
}

// slowMerge takes, as long as there are pairs, the first one of the first run whose first one no other one comes ahead of.
func slowMerge(runs [][]api.Pair) []api.Pair {
	left := slices.Clone(runs)
	var l []api.Pair
	for {
		left = slices.DeleteFunc(left, func(run []api.Pair) bool { return len(run) == 0 })
		if len(left) == 0 {
			return l
		}
		first := 0
		for i, run := range left {
			if slices.Compare([]byte(run[0].Key), []byte(left[first][0].Key)) < 0 {
				first = i
			}
		}
		l = append(l, left[first][0])
		left[first] = left[first][1:]
	}
}

// slowFold is the groups of a list of numbers, folded by numbers without bounds; their greatest common divisor without signs.
func slowFold(l []api.Pair, word string) []api.Pair {
	var folded []api.Pair
	for _, p := range l {
		at := slices.IndexFunc(folded, func(f api.Pair) bool { return f.Key == p.Key })
		if at < 0 {
			folded = append(folded, p)
			continue
		}
		a, b := big.NewInt(int64(folded[at].Val.N)), big.NewInt(int64(p.Val.N))
		switch word {
		case "sum":
			a.Add(a, b)
			for a.Cmp(big.NewInt(farInt)) >= 0 {
				a.Sub(a, big.NewInt(2*farInt))
			}
			for a.Cmp(big.NewInt(-farInt)) < 0 {
				a.Add(a, big.NewInt(2*farInt))
			}
		case "max":
			if a.Cmp(b) < 0 {
				a = b
			}
		case "min":
			if a.Cmp(b) > 0 {
				a = b
			}
		case "gcd":
			a.GCD(nil, nil, a.Abs(a), b.Abs(b))
		}
		folded[at].Val.N = int(a.Int64())
	}
	return folded
}

// What tests ask

// is asks whether a list is the one that is wanted.
func is(t *testing.T, what string, got, want []api.Pair) {
	t.Helper()
	if !slices.Equal(got, want) {
		t.Errorf("%s = %s, want %s", what, clip(got), clip(want))
	}
}

// areRuns asks whether runs are those that are wanted.
func areRuns(t *testing.T, what string, got, want [][]api.Pair) {
	t.Helper()
	if !slices.EqualFunc(got, want, slices.Equal[[]api.Pair]) {
		t.Errorf("%s = %s, want %s", what, clip(got), clip(want))
	}
}

// with is a sorter into which pairs were put.
func with(t *testing.T, room int, l []api.Pair) *Sorter {
	t.Helper()
	s, e := New(room)
	if s == nil || e != api.OK {
		t.Fatalf("New(%d) = %v, %d", room, s, e)
	}
	puts(t, s, l)
	return s
}

// puts puts pairs.
func puts(t *testing.T, s *Sorter, l []api.Pair) {
	t.Helper()
	for _, p := range l {
		if e := s.Put(p); e != api.OK {
			t.Fatalf("Put of %s = %d", clip(p), e)
		}
	}
}

// has asks whether a sorter is one of that room into which just these pairs were put.
func has(t *testing.T, s *Sorter, room int, l []api.Pair) {
	t.Helper()
	if s.Count() != len(l) {
		t.Errorf("Count = %d behind %d pairs", s.Count(), len(l))
	}
	what := fmt.Sprintf(" with room for %d of %s", room, clip(l))
	areRuns(t, "Runs"+what, s.Runs(), slowRuns(l, room))
	is(t, "All"+what, allOf(s.All()), slowSort(l))
}

// allOf is all that is handed out one by one.
func allOf(seq iter.Seq[api.Pair]) []api.Pair {
	var l []api.Pair
	for p := range seq {
		l = append(l, p)
	}
	return l
}

// merges asks whether runs are merged as is wanted.
func merges(t *testing.T, runs [][]api.Pair, want []api.Pair) {
	t.Helper()
	l, e := Merge(runs...)
	if e != api.OK {
		t.Errorf("Merge of %s = %d", clip(runs), e)
	}
	is(t, "Merge of "+clip(runs), l, want)
}

// noMerge asks whether runs are refused, with nothing beside the error.
func noMerge(t *testing.T, runs ...[]api.Pair) {
	t.Helper()
	if l, e := Merge(runs...); len(l) != 0 || e != api.ErrOrder {
		t.Errorf("Merge of %s = %s, %d", clip(runs), clip(l), e)
	}
}

// folds asks whether a list is folded as is wanted.
func folds(t *testing.T, l []api.Pair, word string, want []api.Pair) {
	t.Helper()
	got, e := Fold(l, word)
	if e != api.OK {
		t.Errorf("Fold %s of %s = %d", word, clip(l), e)
	}
	is(t, "Fold "+word+" of "+clip(l), got, want)
}

// noFold asks whether folding ends with an error, with nothing beside it.
func noFold(t *testing.T, l []api.Pair, word string, want api.Errno) {
	t.Helper()
	if got, e := Fold(l, word); len(got) != 0 || e != want {
		t.Errorf("Fold %s of %s = %s, %d, want %d", word, clip(l), clip(got), e, want)
	}
}

// 12.1: New

func TestNewOfEachRoom(t *testing.T) {
	for _, room := range []int{math.MinInt, math.MinInt32, -4096, -2, -1, 0, 4097, 4098, 8192, 1 << 16, math.MaxInt32, 1<<32 + 1, math.MaxInt} {
		if s, e := New(room); s != nil || e != api.ErrArg {
			t.Errorf("New(%d) = %v, %d", room, s, e)
		}
	}
	for room := 1; room <= 4096; room++ {
		has(t, with(t, room, nil), room, nil)
	}
}

func TestTheRoomsThatAreLargest(t *testing.T) {
	var l []api.Pair
	for i := range 8193 {
		l = append(l, pair(strconv.Itoa(i%7), num(i)))
	}
	for _, room := range []int{4095, 4096} {
		for _, size := range []int{room - 1, room, room + 1, 2*room - 1, 2 * room, 2*room + 1} {
			s := with(t, room, l[:size])
			runs := s.Runs()
			if len(runs) != (size+room-1)/room || s.Count() != size {
				t.Errorf("%d pairs, with room for %d, are %d runs, and counted %d", size, room, len(runs), s.Count())
			}
			for i, run := range runs {
				if len(run) != min(room, size-i*room) {
					t.Errorf("of %d pairs, with room for %d, the run %d has %d", size, room, i, len(run))
				}
			}
		}
	}
}

// 12.1: Put and Count

func TestTheExample(t *testing.T) {
	s := with(t, 2, told("b 0", "a 1", "c 2"))
	areRuns(t, "Runs", s.Runs(), [][]api.Pair{told("a 1", "b 0"), told("c 2")})
}

func TestRightPairsArePutAsTheyAre(t *testing.T) {
	for _, p := range rightPairs() {
		has(t, with(t, 1, []api.Pair{p}), 1, []api.Pair{p})
		has(t, with(t, 2, []api.Pair{p, p, p}), 2, []api.Pair{p, p, p})
	}
}

func TestPairsThatAreNotRightAreNotPut(t *testing.T) {
	for _, room := range []int{1, 2, 3} {
		// Ahead of the first pair, within the room, one short of it, just behind it.
		for size := range 6 {
			l := counted("c", "a", "b", "a", "c")[:size]
			s := with(t, room, l)
			for _, p := range wrongPairs() {
				if e := s.Put(p); e != api.ErrArg {
					t.Errorf("Put of %s = %d", clip(p), e)
				}
				if s.Count() != size {
					t.Fatalf("Put of %s counts", clip(p))
				}
			}
			has(t, s, room, l)
			puts(t, s, told("b 9"))
			has(t, s, room, append(l, told("b 9")...))
		}
	}
}

func TestNil(t *testing.T) {
	var s *Sorter
	for _, p := range append(wrongPairs(), rightPairs()...) {
		if e := s.Put(p); e != api.ErrArg {
			t.Errorf("Put of nil = %d", e)
		}
	}
	if s.Count() != 0 || len(s.Runs()) != 0 {
		t.Errorf("nil has %d pairs, the runs %s", s.Count(), clip(s.Runs()))
	}
	all := s.All()
	if all == nil {
		t.Fatalf("All of nil is nil")
	}
	is(t, "All of nil", allOf(all), nil)
}

// 12.1: Runs and All

func TestKnownRuns(t *testing.T) {
	for _, c := range []struct {
		room int
		l    []api.Pair
		want [][]api.Pair
	}{
		{1, told("b 0", "a 1", "b 2"), [][]api.Pair{told("b 0"), told("a 1"), told("b 2")}},
		{2, told("b 0"), [][]api.Pair{told("b 0")}},
		// A room that is just full is a run, and there is none of nothing behind it.
		{2, told("b 0", "a 1"), [][]api.Pair{told("a 1", "b 0")}},
		{2, told("b 0", "a 1", "b 2", "a 3"), [][]api.Pair{told("a 1", "b 0"), told("a 3", "b 2")}},
		{3, told("b 2", "a 1", "b 1"), [][]api.Pair{told("a 1", "b 2", "b 1")}},
		{3, told("c 5", "b 4", "a 3", "a 9", "a 1"), [][]api.Pair{told("a 3", "b 4", "c 5"), told("a 9", "a 1")}},
		{4096, told("c 5", "b 4", "a 3", "b 2"), [][]api.Pair{told("a 3", "b 4", "b 2", "c 5")}},
		{2, counted("b", "ab", "\x80", "\x7f", "", "\x00"), [][]api.Pair{{pair("ab", num(1)), pair("b", num(0))}, {pair("\x7f", num(3)), pair("\x80", num(2))}, {pair("", num(4)), pair("\x00", num(5))}}},
	} {
		areRuns(t, "Runs of "+clip(c.l), with(t, c.room, c.l).Runs(), c.want)
	}
}

func TestKnownMergedRuns(t *testing.T) {
	for _, c := range []struct {
		room    int
		l, want []api.Pair
	}{
		{1, told("b 3", "a 2", "b 1", "a 0"), told("a 2", "a 0", "b 3", "b 1")},
		{2, told("b 3", "a 2", "b 1", "a 0", "b 2"), told("a 2", "a 0", "b 3", "b 1", "b 2")},
		{3, told("d 0", "a 1", "c 2", "a 3", "b 4", "d 5", "a 6"), told("a 1", "a 3", "a 6", "b 4", "c 2", "d 0", "d 5")},
		{4, []api.Pair{pair("k", txt("b")), pair("k", num(2)), pair("k", txt("a")), pair("k", num(1)), pair("k", spot(1, 1)), pair("k", num(0))}, []api.Pair{pair("k", txt("b")), pair("k", num(2)), pair("k", txt("a")), pair("k", num(1)), pair("k", spot(1, 1)), pair("k", num(0))}},
	} {
		is(t, "All of "+clip(c.l), allOf(with(t, c.room, c.l).All()), c.want)
	}
}

func TestASorterIsAsTheChapterSaysBehindEachPut(t *testing.T) {
	for _, l := range append(shortLists(6, "", "a", "a\x80"), told("c 1", "b 2", "a 3", "d 4", "b 5", "a 6", "e 7", "a 8", "c 9")) {
		for room := 1; room <= len(l)+1; room++ {
			s := with(t, room, nil)
			for i := range l {
				has(t, s, room, l[:i])
				puts(t, s, l[i:i+1])
			}
			has(t, s, room, l)
		}
	}
}

func TestTheSorterGoesOnAsItWas(t *testing.T) {
	for _, l := range someLists() {
		for _, room := range []int{1, 2, 3, 5, 16} {
			asked := with(t, room, nil)
			for _, p := range l {
				asked.Runs()
				asked.All()
				for range asked.All() {
					asked.Count()
				}
				puts(t, asked, []api.Pair{p})
			}
			has(t, asked, room, l)
		}
	}
}

// stopped is what is handed out till so many pairs were met.
func stopped(seq iter.Seq[api.Pair], size int) []api.Pair {
	var met []api.Pair
	seq(func(p api.Pair) bool {
		met = append(met, p)
		return len(met) < size
	})
	return met
}

func TestAllStoppedAnywhere(t *testing.T) {
	l := rightPairs()
	for _, room := range []int{1, 2, 7, 50, 4096} {
		all, want := with(t, room, l).All(), slowSort(l)
		for size := 1; size <= len(l); size++ {
			// Behind a no nothing more is handed out, and it begins from the beginning each time.
			is(t, "All, stopped", stopped(all, size), want[:size])
		}
		is(t, "All, behind that", allOf(all), want)
	}
}

func TestAllWithinAll(t *testing.T) {
	l := counted("c", "a", "b", "a", "d")
	all, want := with(t, 2, l).All(), slowSort(l)
	var outer []api.Pair
	for p := range all {
		outer = append(outer, p)
		is(t, "All within All", allOf(all), want)
	}
	is(t, "All around All", outer, want)
}

func TestAllDoesNotFollowTheSorter(t *testing.T) {
	l := counted("d", "b", "c", "b", "a", "c", "a")
	for _, room := range []int{1, 2, 3, 4, 7, 8} {
		for size := range l {
			s := with(t, room, l[:size])
			all := s.All()
			puts(t, s, l[size:])
			is(t, "All, asked ahead of others", allOf(all), slowSort(l[:size]))
			has(t, s, room, l)
		}
		// And what is put while it is gone through isn't handed out.
		s := with(t, room, l)
		var met []api.Pair
		for p := range s.All() {
			met = append(met, p)
			puts(t, s, []api.Pair{p})
		}
		is(t, "All, while others are put", met, slowSort(l))
		has(t, s, room, slices.Concat(l, slowSort(l)))
	}
}

// 12.2: Merge

func TestKnownMerges(t *testing.T) {
	merges(t, nil, nil)
	merges(t, [][]api.Pair{nil}, nil)
	merges(t, [][]api.Pair{{}, nil, {}}, nil)
	merges(t, [][]api.Pair{told("a 1", "a 0", "b 2")}, told("a 1", "a 0", "b 2"))
	merges(t, [][]api.Pair{told("a 9", "b 8"), told("a 1", "b 0")}, told("a 9", "a 1", "b 8", "b 0"))
	merges(t, [][]api.Pair{told("a 1", "b 0"), told("a 9", "b 8")}, told("a 1", "a 9", "b 0", "b 8"))
	merges(t, [][]api.Pair{told("c 1"), nil, told("b 2"), {}, told("a 3")}, told("a 3", "b 2", "c 1"))
	merges(t, [][]api.Pair{told("a 1", "d 2"), told("b 3", "c 4", "e 5"), told("a 6")}, told("a 1", "a 6", "b 3", "c 4", "d 2", "e 5"))
	merges(t, [][]api.Pair{told("k 3", "k 1"), told("k 2"), told("k 0", "k 5", "k 4"), told("k 2")}, told("k 3", "k 1", "k 2", "k 0", "k 5", "k 4", "k 2"))
	merges(t, [][]api.Pair{counted("", "\x80"), counted("\x7f", "\xff")}, []api.Pair{pair("", num(0)), pair("\x7f", num(0)), pair("\x80", num(1)), pair("\xff", num(1))})
	// That a pair isn't right is no error.
	long, odd := pair(strings.Repeat("x", 65), num(1)), pair("a", api.Value{Kind: 9, N: 1, S: "s"})
	merges(t, [][]api.Pair{{long}, {odd, odd}, told("b 1")}, []api.Pair{odd, odd, pair("b", num(1)), long})
}

func TestMergeIsAsTheChapterSays(t *testing.T) {
	short := shortLists(3, "", "a", "b")
	for i := range short {
		short[i] = slowSort(short[i])
	}
	for _, a := range short {
		for _, b := range short {
			b = slices.Clone(b)
			for i := range b {
				b[i].Val.N += 10
			}
			merges(t, [][]api.Pair{a, b}, slowMerge([][]api.Pair{a, b}))
			merges(t, [][]api.Pair{a, b, a}, slowSort(slices.Concat(a, b, a)))
		}
	}
	lists := someLists()
	var ch chance
	for range 500 {
		runs := make([][]api.Pair, ch.below(9))
		for i := range runs {
			runs[i] = slowSort(lists[ch.below(len(lists))])
		}
		merges(t, runs, slowMerge(runs))
	}
}

func TestRunsOfOneKeyGoByTheirPlaces(t *testing.T) {
	// As many runs of all lengths as a heap needs to be several deep, in either order of their lengths.
	for _, longest := range []int{1, 2, 3, 4, 7, 8, 9, 31, 40} {
		var runs [][]api.Pair
		var want []api.Pair
		for i := range 2 * longest {
			run := make([]api.Pair, min(i, 2*longest-i))
			for n := range run {
				run[n] = pair("k", num(1000-100*i-n))
			}
			runs = append(runs, run)
			want = append(want, run...)
		}
		merges(t, runs, want)
	}
}

func TestRunsThatAreNotInOrder(t *testing.T) {
	good := told("a 1", "b 2")
	for _, keys := range [][]string{
		{"b", "a"}, {"a", ""}, {"a", "b", "a"}, {"b", "a", "a"}, {"a", "a", ""}, {"b", "c", "d", "a"}, {"b", "a", "c", "d"}, {"a\x00", "a"}, {"\x80", "\x7f"}, {"a", "B"}, {"9", "10"}, {"b", "b", "aaaa"},
	} {
		bad := counted(keys...)
		noMerge(t, bad)
		noMerge(t, bad, good)
		noMerge(t, good, bad)
		noMerge(t, nil, good, bad)
		noMerge(t, bad, bad)
		noMerge(t, good, good, good, good, good, bad, good)
	}
	for _, l := range shortLists(5, "", "a", "b") {
		if slices.Equal(l, slowSort(l)) {
			merges(t, [][]api.Pair{good, l}, slowMerge([][]api.Pair{good, l}))
		} else {
			noMerge(t, good, l)
		}
	}
	for _, p := range wrongPairs() {
		noMerge(t, []api.Pair{p, p}, told("b 1", "a 2"))
	}
}

// 12.2: Fold

func TestKnownFolds(t *testing.T) {
	for _, c := range []struct {
		word    string
		l, want []api.Pair
	}{
		{"sum", nil, nil},
		{"gcd", []api.Pair{}, nil},
		{"sum", told("a 1", "a 2", "a 3", "b 4", "c 5", "c -6"), told("a 6", "b 4", "c -1")},
		{"max", told("a 1", "a 2", "a -3", "b 4", "c 5", "c -6"), told("a 2", "b 4", "c 5")},
		{"min", told("a 1", "a 2", "a -3", "b 4", "c 5", "c -6"), told("a -3", "b 4", "c -6")},
		{"gcd", told("a 12", "a 18", "a -8", "b 4", "c 0", "c 0", "d -4", "d 6"), told("a 2", "b 4", "c 0", "d 2")},
		{"sum", []api.Pair{pair("", spot(1, 2)), pair("", spot(3, -4))}, []api.Pair{pair("", spot(4, -2))}},
		{"max", []api.Pair{pair("k", txt("b")), pair("k", txt("ba")), pair("k", txt("a"))}, []api.Pair{pair("k", txt("ba"))}},
		{"min", []api.Pair{pair("k", txt("b")), pair("k", txt("ba")), pair("k", txt("a"))}, []api.Pair{pair("k", txt("a"))}},
		// Sums go round, those of two values: a single one doesn't.
		{"sum", []api.Pair{pair("a", num(farInt)), pair("b", num(farInt)), pair("b", num(0)), pair("c", num(farInt)), pair("c", num(farInt)), pair("c", num(3))}, []api.Pair{pair("a", num(farInt)), pair("b", num(-farInt)), pair("c", num(3))}},
		{"sum", []api.Pair{pair("a", spot(farPart, -farPart)), pair("b", spot(farPart, -farPart)), pair("b", spot(0, -1))}, []api.Pair{pair("a", spot(farPart, -farPart)), pair("b", spot(-farPart, farPart-1))}},
		// Kinds of one key alone must be alike, whatever other keys have.
		{"sum", []api.Pair{pair("a", num(1)), pair("a", num(2)), pair("b", spot(1, 1)), pair("b", spot(2, 2)), pair("c", txt("c"))}, []api.Pair{pair("a", num(3)), pair("b", spot(3, 3)), pair("c", txt("c"))}},
		// Keys that begin alike are other keys.
		{"sum", told("a 1", "a 2", "aa 3", "ab 4", "ab 5"), told("a 3", "aa 3", "ab 9")},
	} {
		folds(t, c.l, c.word, c.want)
	}
}

func TestASingleOneIsFoldedAsItIs(t *testing.T) {
	for _, word := range []string{"sum", "max", "min", "gcd", "xor", "", "SUM", "sum ", "\x00"} {
		for _, p := range append(rightPairs(), wrongPairs()...) {
			folds(t, []api.Pair{p}, word, []api.Pair{p})
		}
		folds(t, told("a -1", "b -2", "c -3"), word, told("a -1", "b -2", "c -3"))
		folds(t, nil, word, nil)
	}
}

func TestFoldIsAsTheChapterSays(t *testing.T) {
	var ch chance
	for _, most := range []int{2, 10, 1000} {
		for size := range 60 {
			l := make([]api.Pair, size)
			for i := range l {
				n := ch.below(most) - most/2
				if ch.below(4) == 0 {
					n += []int{farInt - most, most - farInt}[ch.below(2)]
				}
				l[i] = pair(strconv.Itoa(ch.below(1+size/3)), num(n))
			}
			l = slowSort(l)
			for _, word := range []string{"sum", "max", "min", "gcd"} {
				folds(t, l, word, slowFold(l, word))
			}
		}
	}
}

func TestFoldOfListsThatAreNotInOrder(t *testing.T) {
	for _, word := range []string{"sum", "max", "min", "gcd", "xor", ""} {
		noFold(t, told("b 1", "a 2"), word, api.ErrOrder)
		noFold(t, told("a 1", "b 2", "a 3"), word, api.ErrOrder)
		noFold(t, told("a 1", "a 2", "c 3", "b 4"), word, api.ErrOrder)
		noFold(t, counted("\x80", "\x7f"), word, api.ErrOrder)
		// It comes ahead of the errors of folds, also of those whose groups stand ahead.
		noFold(t, []api.Pair{pair("a", num(1)), pair("a", txt("a")), pair("c", num(1)), pair("b", num(1))}, word, api.ErrOrder)
		noFold(t, []api.Pair{pair("b", num(farInt+1)), pair("b", num(farInt+1)), pair("a", num(1))}, word, api.ErrOrder)
	}
	for _, l := range shortLists(5, "", "a", "b") {
		if slices.Equal(l, slowSort(l)) {
			folds(t, l, "max", slowFold(l, "max"))
		} else {
			noFold(t, l, "max", api.ErrOrder)
		}
	}
}

func TestErrorsOfFolds(t *testing.T) {
	for _, word := range []string{"xor", "", "Sum", "sum ", " sum", "sums", "su", "\x00"} {
		noFold(t, told("a 1", "a 2"), word, api.ErrArg)
		noFold(t, told("a 1", "b 2", "b 3", "c 4"), word, api.ErrArg)
		noFold(t, []api.Pair{pair("a", num(1)), pair("a", txt("a"))}, word, api.ErrArg)
	}
	for _, word := range []string{"sum", "max", "min", "gcd"} {
		for _, p := range wrongPairs() {
			if len(p.Key) > 64 {
				continue
			}
			noFold(t, []api.Pair{pair(p.Key, num(1)), p}, word, api.ErrArg)
			noFold(t, []api.Pair{p, pair(p.Key, num(1))}, word, api.ErrArg)
			noFold(t, []api.Pair{p, p}, word, api.ErrArg)
		}
		for _, a := range []api.Value{num(1), txt("a"), spot(1, 1)} {
			for _, b := range []api.Value{num(2), txt("b"), spot(2, 2)} {
				if a.Kind != b.Kind {
					noFold(t, []api.Pair{pair("a", num(1)), pair("k", a), pair("k", b), pair("z", num(1))}, word, api.ErrType)
					noFold(t, []api.Pair{pair("k", a), pair("k", a), pair("k", b)}, word[:3], api.ErrType)
				}
			}
		}
	}
	for _, word := range []string{"sum", "gcd"} {
		noFold(t, []api.Pair{pair("k", txt("a")), pair("k", txt("a"))}, word, api.ErrType)
	}
}

func TestTheFirstErrorOfFolds(t *testing.T) {
	one, other, bad := num(1), txt("a"), num(farInt+1)
	// Key by key, and in a group from the first value on.
	noFold(t, []api.Pair{pair("a", one), pair("a", other), pair("b", one), pair("b", bad)}, "sum", api.ErrType)
	noFold(t, []api.Pair{pair("a", one), pair("a", bad), pair("b", one), pair("b", other)}, "sum", api.ErrArg)
	noFold(t, []api.Pair{pair("a", one), pair("a", one), pair("b", one), pair("b", other), pair("c", bad), pair("c", bad)}, "max", api.ErrType)
	noFold(t, []api.Pair{pair("k", one), pair("k", other), pair("k", bad)}, "min", api.ErrType)
	noFold(t, []api.Pair{pair("k", one), pair("k", bad), pair("k", other)}, "min", api.ErrArg)
	noFold(t, []api.Pair{pair("k", bad), pair("k", one), pair("k", other)}, "min", api.ErrArg)
	noFold(t, []api.Pair{pair("k", one), pair("k", one), pair("k", other), pair("k", bad)}, "gcd", api.ErrType)
}

// 12.3

func TestWhateverTheRoomWhatIsMergedIsWhatIsSorted(t *testing.T) {
	for _, l := range someLists() {
		want := slowSort(l)
		for _, room := range []int{1, 2, 3, 4, 5, 7, 8, 16, 100, 4096} {
			s := with(t, room, l)
			is(t, "All of "+clip(l), allOf(s.All()), want)
			merges(t, s.Runs(), want)
		}
	}
}

func TestManyPairsWithLittleRoom(t *testing.T) {
	var ch chance
	for _, keys := range []int{1, 10, 100000} {
		l := make([]api.Pair, 50000)
		for i := range l {
			l[i] = pair(strconv.Itoa(ch.below(keys)), num(i))
		}
		want := slices.SortedStableFunc(slices.Values(l), func(a, b api.Pair) int { return strings.Compare(a.Key, b.Key) })
		for _, room := range []int{1, 3, 64, 4096} {
			s := with(t, room, l)
			is(t, "All", allOf(s.All()), want)
			merges(t, s.Runs(), want)
		}
	}
}

func TestFoldingPartsFirstChangesNothing(t *testing.T) {
	var ch chance
	values := func(kind int) api.Value {
		switch kind {
		case 0:
			return []api.Value{num(ch.below(100) - 50), num(farInt - ch.below(3)), num(ch.below(3) - farInt), num(12 * ch.below(100))}[ch.below(4)]
		case 1:
			return txt(strconv.Itoa(ch.below(100)))
		}
		return []api.Value{spot(ch.below(100)-50, ch.below(100)-50), spot(farPart, -farPart), spot(6*ch.below(9), 6*ch.below(9))}[ch.below(3)]
	}
	words := [][]string{{"sum", "max", "min", "gcd"}, {"max", "min"}, {"sum", "max", "min", "gcd"}}
	for range 300 {
		kind := ch.below(3)
		l := make([]api.Pair, ch.below(60))
		for i := range l {
			l[i] = pair(strconv.Itoa(ch.below(6)), values(kind))
		}
		for _, word := range words[kind] {
			want, e := Fold(slowSort(l), word)
			if e != api.OK {
				t.Fatalf("Fold %s of %s = %d", word, clip(l), e)
			}
			for _, room := range []int{1, 2, 3, 7, 30} {
				runs := with(t, room, l).Runs()
				for i := range runs {
					runs[i], _ = Fold(runs[i], word)
				}
				merged, _ := Merge(runs...)
				folds(t, merged, word, want)
			}
			folds(t, want, word, want)
		}
	}
}

// Rules 4 and 6: memory, and what calls hang on

// shares tells whether two texts have a byte of memory in common.
func shares(a, b string) bool {
	if a == "" || b == "" {
		return false
	}
	from, other := uintptr(unsafe.Pointer(unsafe.StringData(a))), uintptr(unsafe.Pointer(unsafe.StringData(b)))
	return from < other+uintptr(len(b)) && other < from+uintptr(len(a))
}

// textsOf is all texts of a list.
func textsOf(l []api.Pair) []string {
	var texts []string
	for _, p := range l {
		texts = append(texts, p.Key, p.Val.S)
	}
	return texts
}

func TestWhatIsHandedOutIsNew(t *testing.T) {
	l := []api.Pair{pair("a key", txt("a text")), pair("a key", txt("another text")), pair("some key", txt("some text")), pair("some key", txt("some text"))}
	s := with(t, 3, l)
	all := s.All()
	for name, answer := range map[string]func() []api.Pair{
		"Runs":              func() []api.Pair { return slices.Concat(s.Runs()...) },
		"All":               func() []api.Pair { return allOf(s.All()) },
		"All, gone through": func() []api.Pair { return allOf(all) },
		"Merge":             func() []api.Pair { l, _ := Merge(l[:3], l[3:]); return l },
		"Merge of one":      func() []api.Pair { l, _ := Merge(l); return l },
		"Merge of alike":    func() []api.Pair { l, _ := Merge(l, l); return l },
		"Fold":              func() []api.Pair { l, _ := Fold(l, "max"); return l },
		"Fold of alike":     func() []api.Pair { l, _ := Fold([]api.Pair{l[0], l[0], l[2]}, "min"); return l },
	} {
		a, b := answer(), answer()
		if !slices.Equal(a, b) || len(a) == 0 {
			t.Fatalf("%s = %s, %s", name, clip(a), clip(b))
		}
		held := append(textsOf(slices.Concat(s.laid...)), textsOf(s.inside)...)
		for i, x := range textsOf(a) {
			for j, y := range textsOf(a) {
				if i != j && shares(x, y) {
					t.Errorf("%s: the texts %d and %d of the answer share memory", name, i, j)
				}
			}
			for _, y := range slices.Concat(textsOf(l), textsOf(b), held) {
				if shares(x, y) {
					t.Errorf("%s: the text %d of the answer shares memory with an argument, the sorter, or a later answer", name, i)
				}
			}
		}
	}
}

func TestWhatIsHandedOutMayBeWrittenInto(t *testing.T) {
	l := counted("c", "b", "a", "d", "a", "b", "c", "d")
	for size := range l {
		s := with(t, 3, l[:size])
		was := slowRuns(l[:size], 3)
		runs, all := s.Runs(), s.All()
		for i, run := range runs {
			spare := run[:cap(run)]
			for n := range spare {
				spare[n] = pair("other", num(-i))
			}
		}
		// No two runs lie in one another.
		for i, run := range runs {
			for _, p := range run[:cap(run)] {
				if p != pair("other", num(-i)) {
					t.Errorf("the run %d lies in another one", i)
				}
			}
		}
		spare := runs[:cap(runs)]
		clear(spare)
		areRuns(t, "Runs", s.Runs(), was)
		is(t, "All", allOf(all), slowSort(l[:size]))
		puts(t, s, l[size:])
		has(t, s, 3, l)
	}
	for _, answer := range []func() []api.Pair{
		func() []api.Pair { m, _ := Merge(slowSort(l)); return m },
		func() []api.Pair { f, _ := Fold(slowSort(l), "sum"); return f },
	} {
		a, b := answer(), answer()
		was := slices.Clone(b)
		clear(a[:cap(a)])
		is(t, "a later answer", b, was)
		is(t, "the next answer", answer(), was)
	}
}

func TestWhatIsHandedInIsNotChanged(t *testing.T) {
	for _, l := range append(someLists(), wrongPairs()) {
		spare := told("y 77", "z 78")
		for _, ordered := range []bool{true, false} {
			was := slices.Concat(l, spare)
			if ordered {
				was = slices.Concat(slowSort(l), spare)
			}
			room := slices.Clone(was)
			given := room[:len(l)]
			runs := [][]api.Pair{given, nil, spare, given}
			Merge(runs[:3]...)
			Merge(runs...)
			Merge(given)
			for _, word := range []string{"sum", "max", "xor"} {
				Fold(given, word)
			}
			is(t, "what was handed in", room, was)
			is(t, "another one", spare, told("y 77", "z 78"))
			if len(runs[0]) != len(l) || runs[1] != nil || len(runs[2]) != 2 || len(runs[3]) != len(l) {
				t.Errorf("the runs were changed")
			}
		}
	}
}

func TestNothingFollowsItsArguments(t *testing.T) {
	key, text := []byte("some key"), []byte("some text")
	p := pair(unsafe.String(&key[0], len(key)), txt(unsafe.String(&text[0], len(text))))
	want := []api.Pair{pair("some key", txt("some text")), pair("z", num(1))}
	l := []api.Pair{p, pair("z", num(1))}
	within, laid := with(t, 4, l), with(t, 1, l)
	all := within.All()
	merged, _ := Merge(l)
	folded, _ := Fold(l, "max")
	copy(key, "XXXXXXXX")
	copy(text, "XXXXXXXXX")
	clear(l)
	has(t, within, 4, want)
	has(t, laid, 1, want)
	is(t, "All", allOf(all), want)
	is(t, "Merge", merged, want)
	is(t, "Fold", folded, want)
}

func TestSortersDoNotHangOnEachOther(t *testing.T) {
	l := counted("c", "b", "a", "d", "a", "b", "c", "d")
	a, b := with(t, 3, nil), with(t, 3, nil)
	for i := range l {
		puts(t, a, l[i:i+1])
		puts(t, b, []api.Pair{l[len(l)-1-i]})
	}
	has(t, a, 3, l)
	slices.Reverse(l)
	has(t, b, 3, l)
}

func TestCallsAtOneTime(t *testing.T) {
	var ch chance
	l := ch.list(500, edgeKeys())
	runs, sorted := slowRuns(l, 9), slowSort(l)
	all := with(t, 9, l).All()
	done := make(chan bool)
	for range 8 {
		go func() {
			merged, e := Merge(runs...)
			s, _ := New(9)
			for _, p := range l {
				s.Put(p)
			}
			done <- e == api.OK && slices.Equal(merged, sorted) && slices.Equal(allOf(all), sorted) && slices.Equal(allOf(s.All()), sorted)
		}()
	}
	for range 8 {
		if !<-done {
			t.Errorf("calls at one time hang on each other")
		}
	}
}
