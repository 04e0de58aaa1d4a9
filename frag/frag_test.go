package frag

import (
	"encoding/binary"
	"fmt"
	"hash/crc32"
	"maps"
	"math"
	"math/big"
	"regexp"
	"slices"
	"strconv"
	"strings"
	"sync"
	"testing"
	"unsafe"

	"stook/api"
	"stook/crc"
	"stook/disk"
	"stook/tape"
)

// most is the greatest number of an id, large the most bytes of a piece, as the chapter has them.
const (
	most  = 2147483647
	large = 1048576
)

// clip is something as a fault tells it.
func clip(v any) string {
	s := strconv.QuoteToASCII(fmt.Sprint(v))
	if len(s) > 300 {
		return s[:150] + ".." + s[len(s)-150:]
	}
	return s
}

// chance is numbers that look like those of chance, and are the same each time.
type chance uint32

func (c *chance) below(n int) int {
	*c = *c*1664525 + 1013904223
	return int(*c>>16) % n
}

// text is so many bytes of chance.
func (c *chance) text(n int) string {
	b := make([]byte, n)
	for i := range b {
		b[i] = byte(c.below(256))
	}
	return string(b)
}

// id is an id of chance: mostly of small numbers, so that ids are met again, now and then of great ones.
func (c *chance) id() Id {
	var l [4]int
	for i := range l {
		l[i] = []int{c.below(3), c.below(13), []int{most, most - 1, 1 << 30, 999999999}[c.below(4)]}[[]int{0, 0, 0, 0, 0, 1, 1, 2}[c.below(8)]]
	}
	return Id{l[0], l[1], l[2], l[3]}
}

// rightNumbers, wrongNumbers are numbers at all edges of what an id may have.
func rightNumbers() []int {
	return []int{0, 1, 2, 9, 10, 11, 99, 100, 101, 127, 128, 255, 256, 300, 16383, 16384, 65535, 65536, 1<<30 - 1, 1 << 30, 999999999, 1000000000, most - 1, most}
}

func wrongNumbers() []int {
	return []int{-1, -2, -most, -most - 1, most + 1, most + 2, 1<<32 - 1, 1 << 32, 1<<32 + 1, 1<<53 - 1, 1 << 53, math.MinInt, math.MinInt + 1, math.MaxInt}
}

// with is an id with another number at that place.
func with(id Id, place, n int) Id {
	*[]*int{&id.Task, &id.Attempt, &id.Part, &id.At}[place] = n
	return id
}

// rightIds is ids that are right: each edge at each place, and some of chance.
func rightIds() []Id {
	var l []Id
	for place := range 4 {
		for _, n := range rightNumbers() {
			l = append(l, with(Id{}, place, n), with(Id{20, 3, 45, 6}, place, n), with(Id{most, most, most, most}, place, n))
		}
	}
	c := chance(7)
	for range 300 {
		l = append(l, c.id())
	}
	return l
}

// wrongIds is ids that aren't right.
func wrongIds() []Id {
	var l []Id
	for place := range 4 {
		for _, n := range wrongNumbers() {
			l = append(l, with(Id{}, place, n), with(Id{1, 2, 3, 4}, place, n), with(Id{most, most, most, most}, place, n))
		}
	}
	return append(l, Id{-1, -1, -1, -1}, Id{most + 1, -1, 0, 0})
}

// made is a disk of this size.
func made(t *testing.T, size int) *disk.Disk {
	t.Helper()
	d, e := disk.New(size)
	if d == nil || e != api.OK {
		t.Fatalf("New(%d) = %v, %d", size, d, e)
	}
	return d
}

// lay writes what must find room.
func lay(t *testing.T, d *disk.Disk, name, s string) {
	t.Helper()
	if e := d.Write(name, s); e != api.OK {
		t.Fatalf("Write(%s, %s) = %d", clip(name), clip(s), e)
	}
}

// put puts what must find room.
func put(t *testing.T, d *disk.Disk, id Id, piece string) {
	t.Helper()
	if e := Put(d, id, piece); e != api.OK {
		t.Fatalf("Put(%v, %s) = %d", id, clip(piece), e)
	}
}

// gets says what is got of an id.
func gets(t *testing.T, d *disk.Disk, id Id, want string, e api.Errno) {
	t.Helper()
	if s, got := Get(d, id); s != want || got != e {
		t.Errorf("Get(%v) = %s, %d, want %s, %d", id, clip(s), got, clip(want), e)
	}
}

// scans says what is scanned.
func scans(t *testing.T, d *disk.Disk, want ...Id) {
	t.Helper()
	if got := Scan(d); !slices.Equal(got, want) {
		t.Errorf("Scan = %s, want %s", clip(got), clip(want))
	}
}

// drops says how many a drop deletes.
func drops(t *testing.T, d *disk.Disk, task, attempt, want int) {
	t.Helper()
	if got := Drop(d, task, attempt); got != want {
		t.Errorf("Drop(%d, %d) = %d, want %d", task, attempt, got, want)
	}
}

// The second rule: names by a pattern, frames by the library's varints and its sum, numbers without bounds.

var pattern = regexp.MustCompile(`\At(0|[1-9][0-9]*)a(0|[1-9][0-9]*)p(0|[1-9][0-9]*)f(0|[1-9][0-9]*)\z`)

func slowName(id Id) string {
	return fmt.Sprintf("t%da%dp%df%d", id.Task, id.Attempt, id.Part, id.At)
}

func slowRight(id Id) bool {
	for _, n := range []int{id.Task, id.Attempt, id.Part, id.At} {
		if n != int(uint32(n)&math.MaxInt32) {
			return false
		}
	}
	return true
}

func slowNamed(s string) (Id, bool) {
	found := pattern.FindStringSubmatch(s)
	if found == nil {
		return Id{}, false
	}
	var id Id
	for place, digits := range found[1:] {
		n, _ := new(big.Int).SetString(digits, 10)
		if n.Cmp(big.NewInt(most)) > 0 {
			return Id{}, false
		}
		id = with(id, place, int(n.Int64()))
	}
	return id, true
}

// bare is a frame's bytes without the seal, of any id.
func bare(id Id, piece string) string {
	var b []byte
	for _, n := range []int{id.Task, id.Attempt, id.Part, id.At, len(piece)} {
		b = binary.AppendUvarint(b, uint64(n))
	}
	return string(b) + piece
}

// sealed is a text and its sum.
func sealed(s string) string {
	return string(binary.LittleEndian.AppendUint32([]byte(s), crc32.ChecksumIEEE([]byte(s))))
}

// slowNumber is the number that bytes begin with, how many they are, and the fault of one that isn't.
func slowNumber(s string) (int, int, api.Errno) {
	for size := 1; size <= len(s); size++ {
		if s[size-1] >= 128 {
			if size == 8 {
				return 0, 0, api.ErrForm
			}
			continue
		}
		n, _ := binary.Uvarint([]byte(s[:size]))
		if n > 1<<53-1 || string(binary.AppendUvarint(nil, n)) != s[:size] {
			return 0, 0, api.ErrForm
		}
		return int(n), size, api.OK
	}
	return 0, 0, api.ErrShort
}

func slowOpen(s string) (Id, string, api.Errno) {
	if len(s) < 4 {
		return Id{}, "", api.ErrShort
	}
	rest := s[:len(s)-4]
	if sealed(rest) != s {
		return Id{}, "", api.ErrCrc
	}
	var l []int
	for range 5 {
		n, size, e := slowNumber(rest)
		if e != api.OK {
			return Id{}, "", e
		}
		l, rest = append(l, n), rest[size:]
	}
	id := Id{l[0], l[1], l[2], l[3]}
	switch {
	case l[4] > large:
		return Id{}, "", api.ErrLarge
	case l[4] > len(rest):
		return Id{}, "", api.ErrShort
	case l[4] < len(rest), !slowRight(id):
		return Id{}, "", api.ErrForm
	}
	return id, rest, api.OK
}

// opens says what a frame opens to.
func opens(t *testing.T, s string, id Id, piece string, e api.Errno) {
	t.Helper()
	gotId, got, gotE := Open(s)
	if gotId != id || got != piece || gotE != e {
		t.Errorf("Open(%s) = %v, %s, %d, want %v, %s, %d", clip(s), gotId, clip(got), gotE, id, clip(piece), e)
	}
}

// opensAsTheRule says that a frame opens as the second rule has it.
func opensAsTheRule(t *testing.T, s string) {
	t.Helper()
	id, piece, e := slowOpen(s)
	opens(t, s, id, piece, e)
}

// 15.1: ids and names

func TestRight(t *testing.T) {
	for _, id := range rightIds() {
		if !Right(id) {
			t.Errorf("Right(%v) = false", id)
		}
	}
	for _, id := range wrongIds() {
		if Right(id) {
			t.Errorf("Right(%v) = true", id)
		}
	}
	for a := -1; a < 2; a++ {
		for b := -1; b < 2; b++ {
			for c := most; c < most+2; c++ {
				for d := most; d < most+2; d++ {
					id := Id{a, b, c, d}
					if got := Right(id); got != (a >= 0 && b >= 0 && c == most && d == most) || got != slowRight(id) {
						t.Errorf("Right(%v) = %v", id, got)
					}
				}
			}
		}
	}
}

func TestName(t *testing.T) {
	for want, id := range map[string]Id{
		"t1a20p3f0": {1, 20, 3, 0},
		"t0a0p0f0":  {},
		"t2a1p0f3":  {2, 1, 0, 3},
		"t2147483647a2147483647p2147483647f2147483647": {most, most, most, most},
	} {
		if got := Name(id); got != want {
			t.Errorf("Name(%v) = %s, want %s", id, clip(got), want)
		}
		if got, ok := Named(want); got != id || !ok {
			t.Errorf("Named(%s) = %v, %v, want %v", want, got, ok, id)
		}
	}
	for _, id := range rightIds() {
		if got := Name(id); got != slowName(id) {
			t.Errorf("Name(%v) = %s", id, clip(got))
		}
	}
	for _, id := range wrongIds() {
		if got := Name(id); got != "" {
			t.Errorf("Name(%v) = %s, want nothing", id, clip(got))
		}
	}
}

func TestNamedIsThereAndBack(t *testing.T) {
	met := map[string]Id{}
	for _, id := range rightIds() {
		name := Name(id)
		if other, ok := met[name]; ok && other != id {
			t.Errorf("%v and %v are both %s", id, other, name)
		}
		met[name] = id
		if got, ok := Named(name); got != id || !ok {
			t.Errorf("Named(%s) = %v, %v, want %v", name, got, ok, id)
		}
	}
}

// namedAsTheRule says that a name is read as the second rule has it.
func namedAsTheRule(t *testing.T, s string) {
	t.Helper()
	want, wanted := slowNamed(s)
	if id, ok := Named(s); id != want || ok != wanted {
		t.Errorf("Named(%s) = %v, %v, want %v, %v", clip(s), id, ok, want, wanted)
	}
}

func TestNoNames(t *testing.T) {
	for _, s := range []string{
		"", "t", "f", "tapf", "0000", "ta0p0f0", "t0ap0f0", "t0a0pf0", "t0a0p0f", "t0a0p0", "t0a0", "t0", "a0p0f0", "f0",
		"t0p0a0f0", "a0t0p0f0", "f0p0a0t0", "t0a0f0p0", "t0a0p0p0", "t0t0a0p0f0", "t0a0a0p0f0", "t0a0p0f0f0", "t0a0p0f0t0a0p0f0",
		"T0A0P0F0", "T0a0p0f0", "t0a0p0F0", " t0a0p0f0", "t0a0p0f0 ", "t0a0p0f0\n", "\nt0a0p0f0", "t 0a0p0f0", "t0a0p0f0\x00", "\x00t0a0p0f0", "t0a0p0f0x", "xt0a0p0f0",
		"t00a0p0f0", "t0a00p0f0", "t0a0p00f0", "t0a0p0f00", "t01a0p0f0", "t0a01p0f0", "t0a0p01f0", "t0a0p0f01",
		"t-1a0p0f0", "t-0a0p0f0", "t+1a0p0f0", "t0a+0p0f0", "t0a0p-2f0", "t0a0p0f+3", "t--1a0p0f0", "t0a0p0f-0", "t0a0p0f-1",
		"t1.0a0p0f0", "t1e3a0p0f0", "t0x1a0p0f0", "t1_000a0p0f0", "t1:2a1p0f3", "t1a2:3p0f3", "t1,000a0p0f0", "t\"1\"a0p0f0", "t0b1a0p0f0", "t0a0p0f0xf",
		"t2147483648a0p0f0", "t0a2147483648p0f0", "t0a0p2147483648f0", "t0a0p0f2147483648",
		"t4294967296a0p0f0", "t4294967297a0p0f0", "t9007199254740992a0p0f0", "t0a9223372036854775807p0f0", "t0a0p9223372036854775808f0",
		"t0a0p0f18446744073709551616", "t18446744073709551617a0p0f0", "t0a0p0f340282366920938463463374607431768211457",
		"t-2147483649a0p0f0", "t-9223372036854775808a0p0f0", "t0a-18446744073709551615p0f0",
		"t" + strings.Repeat("0", 60) + "a0p0f0", "t1" + strings.Repeat("0", 70) + "a0p0f0", strings.Repeat("t", 1000), strings.Repeat("f", 1000), strings.Repeat("9", 1000),
		"t٣a0p0f0", "t０a0p0f0", "t0a0p0f²", "t0ａ0p0f0", "t\xffa0p0f0", "t0a0p0f\xb2",
	} {
		if id, ok := Named(s); id != (Id{}) || ok {
			t.Errorf("Named(%s) = %v, %v", clip(s), id, ok)
		}
		namedAsTheRule(t, s)
	}
}

func TestNamedOfVeryLongTexts(t *testing.T) {
	for _, s := range []string{"t" + strings.Repeat("1", 1<<20) + "a0p0f0", strings.Repeat("t1a2p3f4", 1<<17), strings.Repeat("f", 1<<20), "t0a0p0f" + strings.Repeat("0", 1<<20)} {
		if id, ok := Named(s); id != (Id{}) || ok {
			t.Errorf("Named(%s) = %v, %v", clip(s), id, ok)
		}
	}
}

func TestNamesChangedAtEachByte(t *testing.T) {
	for _, name := range []string{"t0a0p0f0", "t1a20p3f0", "t10a9p100f45", "t2147483647a1p2147483646f2147483640"} {
		for at := range len(name) + 1 {
			for b := range 256 {
				put := string([]byte{byte(b)})
				namedAsTheRule(t, name[:at]+put+name[at:])
				if at < len(name) {
					namedAsTheRule(t, name[:at]+put+name[at+1:])
				}
			}
			namedAsTheRule(t, name[:at])
			namedAsTheRule(t, name[at:])
			for end := at; end <= len(name); end++ {
				namedAsTheRule(t, name[:at]+name[end:])
				namedAsTheRule(t, name[:at]+name[at:end]+name[at:])
			}
		}
	}
}

func TestNamesOutOfParts(t *testing.T) {
	words := []string{"", "t", "a", "p", "f", "x"}
	digits := []string{"", "0", "7", "07", "-7", "2147483648"}
	for _, a := range words {
		for _, b := range words {
			for _, c := range words {
				for _, d := range words {
					for i := range digits {
						for j := range digits {
							namedAsTheRule(t, a+digits[i]+b+digits[j]+c+digits[i]+d+digits[j])
						}
					}
				}
			}
		}
	}
}

func TestNamesOfChance(t *testing.T) {
	c := chance(3)
	const letters = "ttaappff0012789-+ "
	named := 0
	for range 200000 {
		var b strings.Builder
		for _, letter := range "tapf" {
			if c.below(12) > 0 {
				b.WriteRune(letter)
			}
			for range c.below(3) + c.below(12)/11*8 {
				b.WriteByte("0123456789"[c.below(10)])
			}
			if c.below(12) == 0 {
				b.WriteByte(letters[c.below(len(letters))])
			}
		}
		namedAsTheRule(t, b.String())
		if _, ok := Named(b.String()); ok {
			named++
		}
	}
	if named < 1000 || named > 150000 {
		t.Errorf("%d of them are names", named)
	}
}

// 15.1: frames

func TestFrame(t *testing.T) {
	for want, id := range map[string]Id{
		"\x01\x14\x03\x00\x03rye":                         {1, 20, 3, 0},
		"\x00\x00\x00\x00\x03rye":                         {},
		"\xac\x02\x80\x01\xff\xff\xff\xff\x07\x7f\x03rye": {300, 128, most, 127},
	} {
		s, e := Frame(id, "rye")
		if s != crc.Seal(want) || s != sealed(want) || e != api.OK {
			t.Errorf("Frame(%v) = %s, %d, want %s, sealed", id, clip(s), e, clip(want))
		}
	}
	c := chance(5)
	for _, id := range rightIds() {
		for _, n := range []int{0, 1, 127, 128, c.below(500)} {
			piece := c.text(n)
			s, e := Frame(id, piece)
			if s != sealed(bare(id, piece)) || e != api.OK {
				t.Errorf("Frame(%v, %s) = %s, %d", id, clip(piece), clip(s), e)
			}
			opens(t, s, id, piece, api.OK)
		}
	}
}

func TestFrameOfWhatMayNotBe(t *testing.T) {
	for _, id := range wrongIds() {
		for _, piece := range []string{"", "rye", strings.Repeat("x", 5000)} {
			if s, e := Frame(id, piece); s != "" || e != api.ErrArg {
				t.Errorf("Frame(%v, %s) = %s, %d", id, clip(piece), clip(s), e)
			}
		}
	}
	long := strings.Repeat("x", large)
	for id, piece := range map[Id]string{{}: long + "x", {1, 2, 3, 4}: long + long, {most, most, most, most}: long + "yz", {-1, 0, 0, 0}: long + "x", {0, 0, 0, -1}: long} {
		if s, e := Frame(id, piece); s != "" || e != api.ErrArg {
			t.Errorf("Frame(%v, %d bytes) = %s, %d", id, len(piece), clip(s), e)
		}
	}
}

func TestTheLargestPieces(t *testing.T) {
	c := chance(11)
	for _, n := range []int{large - 1, large} {
		for _, id := range []Id{{}, {1, 20, 3, 0}, {most, most, most, most}} {
			piece := c.text(n)
			s, e := Frame(id, piece)
			if s != sealed(bare(id, piece)) || e != api.OK {
				t.Errorf("Frame of %d bytes = %s, %d", n, clip(s), e)
			}
			opens(t, s, id, piece, api.OK)
			d := made(t, 1<<22)
			put(t, d, id, piece)
			gets(t, d, id, piece, api.OK)
			scans(t, d, id)
		}
	}
}

func TestOpenWithoutASeal(t *testing.T) {
	for _, s := range []string{"", "a", "ab", "abc", "\x00\x00\x00"} {
		opens(t, s, Id{}, "", api.ErrShort)
	}
	for _, s := range []string{"abcd", "\x00\x00\x00\x01", "\x00\x00\x00\x00\x00", bare(Id{1, 2, 3, 4}, "rye"), bare(Id{1, 2, 3, 4}, "a longer piece")} {
		opens(t, s, Id{}, "", api.ErrCrc)
	}
	// Sealed as it must be, but nothing is in it.
	opens(t, "\x00\x00\x00\x00", Id{}, "", api.ErrShort)
	frame := sealed(bare(Id{1, 20, 3, 0}, "rye"))
	for n := range len(frame) {
		want := api.ErrCrc
		if n < 4 {
			want = api.ErrShort
		}
		opens(t, frame[:n], Id{}, "", want)
	}
	opens(t, frame+"\x00", Id{}, "", api.ErrCrc)
	opens(t, frame+frame, Id{}, "", api.ErrCrc)
}

func TestOpenOfFramesCutShort(t *testing.T) {
	for _, id := range []Id{{}, {1, 20, 3, 0}, {300, 128, most, 16384}, {most, most, most, most}} {
		for _, piece := range []string{"", "r", "rye", strings.Repeat("x", 200)} {
			whole := bare(id, piece)
			for n := range len(whole) {
				opens(t, sealed(whole[:n]), Id{}, "", api.ErrShort)
			}
			opens(t, sealed(whole), id, piece, api.OK)
			for _, more := range []string{"\x00", "x", "\x80", whole, sealed(whole)} {
				opens(t, sealed(whole+more), Id{}, "", api.ErrForm)
			}
		}
	}
}

func TestOpenOfBadNumbers(t *testing.T) {
	bad := map[string]api.Errno{
		"\x80\x00":                         api.ErrForm,
		"\x81\x80\x00":                     api.ErrForm,
		"\xff\xff\xff\xff\xff\xff\xff\x10": api.ErrForm,
		"\x80\x80\x80\x80\x80\x80\x80\x10": api.ErrForm,
		"\x80\x80\x80\x80\x80\x80\x80\x80": api.ErrForm,
		"\xff\xff\xff\xff\xff\xff\xff\xff": api.ErrForm,
	}
	for s, e := range bad {
		for place := range 5 {
			opens(t, sealed(strings.Repeat("\x01", place)+s+strings.Repeat("\x01", 6)), Id{}, "", e)
			opens(t, sealed(strings.Repeat("\x01", place)+s), Id{}, "", e)
			opensAsTheRule(t, sealed(strings.Repeat("\x01", place)+s+"rye"))
		}
	}
	for _, s := range []string{"", "\x80", "\xff\xff", "\x80\x80\x80\x80\x80\x80\x80"} {
		for place := range 5 {
			opens(t, sealed(strings.Repeat("\x01", place)+s), Id{}, "", api.ErrShort)
		}
	}
}

func TestOpenOfIdsThatAreNotRight(t *testing.T) {
	for place := range 4 {
		for _, n := range []int{most + 1, most + 2, 1<<32 - 1, 1 << 32, 1<<32 + 1, 1<<53 - 1} {
			id := with(Id{1, 20, 3, 0}, place, n)
			whole := bare(id, "rye")
			opens(t, sealed(whole), Id{}, "", api.ErrForm)
			opens(t, sealed(whole+"x"), Id{}, "", api.ErrForm)
			// Layer 5's errors of what stands behind it come first.
			opens(t, sealed(whole[:len(whole)-1]), Id{}, "", api.ErrShort)
			opens(t, sealed(whole[:len(whole)-4]+tape.Num(large+1)), Id{}, "", api.ErrLarge)
		}
		opens(t, sealed(bare(with(Id{1, 20, 3, 0}, place, most), "rye")), with(Id{1, 20, 3, 0}, place, most), "rye", api.OK)
	}
}

func TestOpenOfPiecesThatAreTooLarge(t *testing.T) {
	for _, n := range []int{large + 1, large + 2, 1 << 21, 1 << 31, 1 << 32, 1<<53 - 1} {
		// Whether so many bytes are there or not: ErrLarge is told first.
		opens(t, sealed("\x01\x02\x03\x04"+tape.Num(n)), Id{}, "", api.ErrLarge)
		opens(t, sealed("\x01\x02\x03\x04"+tape.Num(n)+"rye"), Id{}, "", api.ErrLarge)
		if n <= 1<<21 {
			piece := strings.Repeat("x", n)
			opens(t, sealed("\x01\x02\x03\x04"+tape.Text(piece)), Id{}, "", api.ErrLarge)
			opens(t, sealed("\x01\x02\x03\x04"+tape.Text(piece)+"x"), Id{}, "", api.ErrLarge)
		}
	}
	opens(t, sealed("\x01\x02\x03\x04"+tape.Num(large)+"rye"), Id{}, "", api.ErrShort)
	opens(t, sealed("\x01\x02\x03\x04"+tape.Num(large)+strings.Repeat("x", large-1)), Id{}, "", api.ErrShort)
	opens(t, sealed("\x01\x02\x03\x04"+tape.Num(large)+strings.Repeat("x", large+1)), Id{}, "", api.ErrForm)
}

func TestOpenOfAllShortBytes(t *testing.T) {
	alphabet := []byte{0, 1, 2, 'x', 127, 128, 255}
	var all func(s []byte, left int)
	all = func(s []byte, left int) {
		opensAsTheRule(t, sealed(string(s)))
		if left == 0 {
			return
		}
		for _, b := range alphabet {
			all(append(s, b), left-1)
		}
	}
	all(nil, 6)
}

func TestOpenOfBytesOfChance(t *testing.T) {
	c := chance(13)
	met := map[api.Errno]int{}
	for range 100000 {
		s := ""
		for range 5 {
			switch c.below(20) {
			default:
				s += tape.Num(c.below(12))
			case 0:
				s += tape.Num(most - 1 + c.below(4))
			case 1:
				s += tape.Num([]int{large, large + 1, 1<<53 - 1, 300}[c.below(4)])
			case 2:
				s += c.text(c.below(10))
			}
		}
		s += c.text(c.below(12))
		if s = sealed(s); c.below(20) == 0 {
			s = s[:c.below(len(s))]
		}
		opensAsTheRule(t, s)
		_, _, e := Open(s)
		met[e]++
	}
	for _, e := range []api.Errno{api.OK, api.ErrShort, api.ErrLarge, api.ErrForm, api.ErrCrc} {
		if met[e] < 100 {
			t.Errorf("%d is met %d times", e, met[e])
		}
	}
}

// What is opened has one frame only.
func TestWhatIsOpenedIsWhatWasFramed(t *testing.T) {
	c := chance(17)
	for range 50000 {
		s := sealed(c.text(4)[:2] + "\x00\x01" + tape.Num(c.below(4)) + c.text(c.below(4)))
		if id, piece, e := Open(s); e == api.OK {
			if again, e := Frame(id, piece); again != s || e != api.OK {
				t.Errorf("%s is opened, but its frame is %s, %d", clip(s), clip(again), e)
			}
		}
	}
}

// 15.2: Put and Get

func TestPutLaysTheFrameUnderTheName(t *testing.T) {
	c := chance(19)
	for _, id := range rightIds() {
		d := made(t, 1000)
		piece := c.text(c.below(300))
		put(t, d, id, piece)
		if names := d.Names(); !slices.Equal(names, []string{slowName(id)}) {
			t.Errorf("the names are %s", clip(names))
		}
		if s, e := d.Read(slowName(id)); s != sealed(bare(id, piece)) || e != api.OK {
			t.Errorf("%v holds %s, %d", id, clip(s), e)
		}
		gets(t, d, id, piece, api.OK)
		scans(t, d, id)
	}
}

func TestPutAnew(t *testing.T) {
	d := made(t, 1000)
	id := Id{1, 20, 3, 0}
	for _, piece := range []string{"rye", "a longer one", "", "\x00", strings.Repeat("x", 900)} {
		put(t, d, id, piece)
		gets(t, d, id, piece, api.OK)
		scans(t, d, id)
	}
	// Also where what stands there can't be got.
	for _, s := range []string{"", "spoilt", sealed("")} {
		lay(t, d, Name(id), s)
		put(t, d, id, "anew")
		gets(t, d, id, "anew", api.OK)
	}
}

func TestPutOfWhatMayNotBe(t *testing.T) {
	d := made(t, 1<<22)
	put(t, d, Id{}, "kept")
	room := d.Room()
	for _, id := range wrongIds() {
		for _, d := range []*disk.Disk{d, made(t, 0), nil} {
			if e := Put(d, id, "rye"); e != api.ErrArg {
				t.Errorf("Put(%v) = %d", id, e)
			}
		}
	}
	for _, d := range []*disk.Disk{d, made(t, 0), nil} {
		if e := Put(d, Id{}, strings.Repeat("x", large+1)); e != api.ErrArg {
			t.Errorf("Put of a large piece = %d", e)
		}
	}
	if e := Put(nil, Id{}, "rye"); e != api.ErrArg {
		t.Errorf("Put on nil = %d", e)
	}
	gets(t, d, Id{}, "kept", api.OK)
	scans(t, d, Id{})
	if d.Room() != room {
		t.Errorf("Room = %d, want %d", d.Room(), room)
	}
}

func TestPutTakesAllRoomAndNoMore(t *testing.T) {
	for _, id := range []Id{{}, {1, 20, 3, 0}, {most, most, most, most}} {
		for _, n := range []int{0, 1, 127, 128, 300} {
			piece := strings.Repeat("x", n)
			takes := len(slowName(id)) + len(bare(id, piece)) + 4 + 16
			d := made(t, takes)
			put(t, d, id, piece)
			if d.Room() != 0 {
				t.Errorf("Room = %d", d.Room())
			}
			put(t, d, id, piece)
			gets(t, d, id, piece, api.OK)
			if e := Put(d, id, piece+"x"); e != api.ErrFull {
				t.Errorf("Put of a longer piece = %d", e)
			}
			gets(t, d, id, piece, api.OK)
			scans(t, d, id)
			d = made(t, takes-1)
			if e := Put(d, id, piece); e != api.ErrFull {
				t.Errorf("Put = %d", e)
			}
			gets(t, d, id, "", api.ErrNone)
			scans(t, d)
			if d.Room() != takes-1 {
				t.Errorf("Room = %d", d.Room())
			}
		}
	}
}

func TestGetOfWhatIsNot(t *testing.T) {
	d := made(t, 1000)
	put(t, d, Id{1, 2, 3, 4}, "rye")
	for _, id := range wrongIds() {
		for _, d := range []*disk.Disk{d, made(t, 0), nil} {
			gets(t, d, id, "", api.ErrArg)
		}
	}
	for _, id := range []Id{{}, {1, 2, 3, 5}, {1, 2, 4, 4}, {1, 3, 3, 4}, {2, 2, 3, 4}, {4, 3, 2, 1}, {most, most, most, most}} {
		gets(t, d, id, "", api.ErrNone)
		gets(t, nil, id, "", api.ErrNone)
	}
	gets(t, nil, Id{1, 2, 3, 4}, "", api.ErrNone)
	gets(t, d, Id{1, 2, 3, 4}, "rye", api.OK)
}

func TestGetOfWhatIsNoFrame(t *testing.T) {
	d := made(t, 1<<22)
	id := Id{1, 2, 3, 4}
	whole := bare(id, "rye")
	for s, want := range map[string]api.Errno{
		"":                             api.ErrShort,
		"abc":                          api.ErrShort,
		"abcd":                         api.ErrCrc,
		whole:                          api.ErrCrc,
		sealed(whole) + "x":            api.ErrCrc,
		sealed(""):                     api.ErrShort,
		sealed(whole[:len(whole)-1]):   api.ErrShort,
		sealed(whole + "x"):            api.ErrForm,
		sealed("\x01\x02\x03\x80\x00"): api.ErrForm,
		sealed("\x01\x02\x03\x04" + tape.Num(large+1)):         api.ErrLarge,
		sealed("\x05\x02\x03\x04" + tape.Num(large+1)):         api.ErrLarge,
		sealed(bare(Id{1, 2, 3, most + 1}, "rye")):             api.ErrForm,
		sealed(bare(Id{1, 2, 3, 5}, "rye")):                    api.ErrForm,
		sealed(bare(Id{1, 2, 0, 4}, "rye")):                    api.ErrForm,
		sealed(bare(Id{1, 1, 3, 4}, "rye")):                    api.ErrForm,
		sealed(bare(Id{0, 2, 3, 4}, "rye")):                    api.ErrForm,
		sealed(bare(Id{4, 3, 2, 1}, "")):                       api.ErrForm,
		sealed(bare(Id{2, 1, 3, 4}, strings.Repeat("x", 500))): api.ErrForm,
	} {
		lay(t, d, Name(id), s)
		gets(t, d, id, "", want)
		scans(t, d)
	}
	lay(t, d, Name(id), sealed(whole))
	gets(t, d, id, "rye", api.OK)
	scans(t, d, id)
	// A frame stands under any name; it is got under its own alone.
	lay(t, d, "t1a2p3f5", sealed(whole))
	gets(t, d, Id{1, 2, 3, 5}, "", api.ErrForm)
	scans(t, d, id)
}

// 15.2: Scan

func TestScanIsInTheNumbersOrder(t *testing.T) {
	numbers := []int{0, 1, 2, 9, 10, 11, 19, 20, 100, most}
	for place := range 4 {
		var want []Id
		d := made(t, 1<<16)
		c := chance(place)
		for _, n := range numbers {
			want = append(want, with(Id{5, 5, 5, 5}, place, n))
		}
		for _, i := range shuffled(&c, len(want)) {
			put(t, d, want[i], "")
		}
		scans(t, d, want...)
	}
	// A number counts where those ahead of it are alike, and only there.
	var want []Id
	d := made(t, 1<<16)
	for a := range 3 {
		for b := range 3 {
			for c := range 3 {
				for e := range 3 {
					want = append(want, Id{a * 5, b * 6, c * 7, e * 8})
				}
			}
		}
	}
	c := chance(23)
	for _, i := range shuffled(&c, len(want)) {
		put(t, d, want[i], strconv.Itoa(i))
	}
	scans(t, d, want...)
	for i, id := range want {
		gets(t, d, id, strconv.Itoa(i), api.OK)
	}
}

// shuffled is the numbers below n, in an order of chance.
func shuffled(c *chance, n int) []int {
	l := make([]int, n)
	for i := range l {
		l[i] = i
		j := c.below(i + 1)
		l[i], l[j] = l[j], l[i]
	}
	return l
}

func TestScanOfNamesThatAreNone(t *testing.T) {
	d := made(t, 1<<16)
	scans(t, d)
	scans(t, nil)
	frame := sealed(bare(Id{1, 2, 3, 4}, "rye"))
	for _, name := range []string{"t01a2p3f4", "t1a2p3f4x", "xt1a2p3f4", "t1a2p3", "T1a2p3f4", "a", "t+1a2p3f4", "t1a2p3f4\x00", " t1a2p3f4", strings.Repeat("t", 64)} {
		lay(t, d, name, frame)
	}
	lay(t, d, "t4294967297a2p3f4", frame)
	lay(t, d, "t2147483648a0p0f0", sealed(bare(Id{most + 1, 0, 0, 0}, "")))
	scans(t, d)
	put(t, d, Id{1, 2, 3, 4}, "rye")
	scans(t, d, Id{1, 2, 3, 4})
	if n := len(d.Names()); n != 13 {
		t.Errorf("there are %d names", n)
	}
}

func TestScanChangesNothing(t *testing.T) {
	d := made(t, 1000)
	put(t, d, Id{1, 2, 3, 4}, "rye")
	put(t, d, Id{1, 2, 3, 5}, "oats")
	d.Spoil("t1a2p3f5", 0, 1)
	lay(t, d, "other", "bytes")
	room, names := d.Room(), d.Names()
	for range 3 {
		scans(t, d, Id{1, 2, 3, 4})
		gets(t, d, Id{1, 2, 3, 5}, "", api.ErrCrc)
	}
	if d.Room() != room || !slices.Equal(d.Names(), names) {
		t.Errorf("the names are %s now", clip(d.Names()))
	}
	d.Spoil("t1a2p3f5", 0, 1)
	scans(t, d, Id{1, 2, 3, 4}, Id{1, 2, 3, 5})
}

// 15.2: Drop

func TestDrop(t *testing.T) {
	d := made(t, 1<<16)
	drops(t, d, 0, 0, 0)
	drops(t, nil, 0, 0, 0)
	for _, id := range []Id{{1, 2, 0, 0}, {1, 2, 0, 1}, {1, 2, 10, 3}, {1, 2, most, most}, {1, 3, 0, 0}, {2, 2, 0, 0}, {2, 1, 0, 0}, {12, 2, 0, 0}, {1, 20, 0, 0}, {11, 2, 0, 0}, {1, 22, 0, 0}, {0, 0, 1, 2}} {
		put(t, d, id, "rye")
	}
	for _, at := range [][2]int{{3, 2}, {1, 0}, {2, 3}, {-1, 2}, {1, -2}, {math.MinInt, math.MaxInt}, {1 + 1<<32, 2}, {most + 1, 0}} {
		drops(t, d, at[0], at[1], 0)
	}
	drops(t, d, 1, 2, 4)
	drops(t, d, 1, 2, 0)
	scans(t, d, Id{0, 0, 1, 2}, Id{1, 3, 0, 0}, Id{1, 20, 0, 0}, Id{1, 22, 0, 0}, Id{2, 1, 0, 0}, Id{2, 2, 0, 0}, Id{11, 2, 0, 0}, Id{12, 2, 0, 0})
	gets(t, d, Id{1, 2, 0, 0}, "", api.ErrNone)
	drops(t, d, 0, 0, 1)
	drops(t, d, 2, 1, 1)
	drops(t, d, 12, 2, 1)
	scans(t, d, Id{1, 3, 0, 0}, Id{1, 20, 0, 0}, Id{1, 22, 0, 0}, Id{2, 2, 0, 0}, Id{11, 2, 0, 0})
}

func TestDropOfWhatCanNotBeGot(t *testing.T) {
	d := made(t, 1<<16)
	put(t, d, Id{1, 2, 0, 0}, "rye")
	d.Spoil("t1a2p0f0", 3, 1)
	lay(t, d, "t1a2p0f1", "")
	lay(t, d, "t1a2p0f2", "no frame")
	// A frame of another id: the name tells which one it is.
	lay(t, d, "t1a2p0f3", sealed(bare(Id{7, 7, 7, 7}, "")))
	lay(t, d, "t7a7p7f7", sealed(bare(Id{1, 2, 0, 3}, "")))
	for _, name := range []string{"t01a2p0f0", "t1a02p0f0", "t1a2p0", "t1a2", "t1a2p00f0", "t1a2p0f2147483648", "xt1a2p0f0", "t1a2p0f0x"} {
		lay(t, d, name, sealed(bare(Id{1, 2, 0, 0}, "")))
	}
	drops(t, d, 1, 2, 4)
	drops(t, d, 1, 2, 0)
	if names := d.Names(); len(names) != 9 || !slices.Contains(names, "t7a7p7f7") {
		t.Errorf("the names are %s", clip(names))
	}
	drops(t, d, 7, 7, 1)
	if names := d.Names(); len(names) != 8 {
		t.Errorf("the names are %s", clip(names))
	}
}

func TestDropGivesTheRoomBack(t *testing.T) {
	d := made(t, 7*(8+9+16))
	for i := range 7 {
		put(t, d, Id{Attempt: i % 2, At: i}, "")
	}
	if e := Put(d, Id{Task: 1}, ""); e != api.ErrFull {
		t.Errorf("Put = %d", e)
	}
	drops(t, d, 0, 0, 4)
	drops(t, d, 0, 1, 3)
	if d.Room() != 7*(8+9+16) {
		t.Errorf("Room = %d", d.Room())
	}
	drops(t, made(t, 0), 0, 0, 0)
}

// 15.3

func TestOneByteSpoilt(t *testing.T) {
	for _, id := range []Id{{1, 20, 3, 0}, {}, {most, 300, 128, 127}} {
		for _, piece := range []string{"", "r", "\x00\x00\x00\x00\x00", strings.Repeat("rye ", 40)} {
			d := made(t, 1000)
			other := Id{9, 9, 9, 9}
			put(t, d, other, "kept")
			put(t, d, id, piece)
			for at := range len(bare(id, piece)) + 4 {
				for by := 1; by < 256; by++ {
					if !d.Spoil(Name(id), at, byte(by)) {
						t.Fatalf("Spoil at %d", at)
					}
					gets(t, d, id, "", api.ErrCrc)
					if by%50 == 1 {
						scans(t, d, other)
						gets(t, d, other, "kept", api.OK)
					}
					d.Spoil(Name(id), at, byte(by))
				}
				gets(t, d, id, piece, api.OK)
			}
			gets(t, d, other, "kept", api.OK)
		}
	}
}

func TestWhatIsLostOrDeletedIsNotGot(t *testing.T) {
	d := made(t, 1000)
	a, b := Id{1, 2, 3, 4}, Id{1, 2, 3, 5}
	put(t, d, a, "rye")
	put(t, d, b, "oats")
	c := d.Copy()
	d.Delete(Name(a))
	gets(t, d, a, "", api.ErrNone)
	scans(t, d, b)
	d.Lose()
	gets(t, d, b, "", api.ErrNone)
	scans(t, d)
	drops(t, d, 1, 2, 0)
	gets(t, c, a, "rye", api.OK)
	scans(t, c, a, b)
	put(t, d, a, "anew")
	gets(t, d, a, "anew", api.OK)
	gets(t, c, a, "rye", api.OK)
}

// slow is what a disk has, by the second rule: pieces by their names, and whether each can be got.
type slow map[string]*kept

type kept struct {
	id    Id
	piece string
	bad   map[int]byte
}

func (k *kept) good() bool { return len(k.bad) == 0 }

// spoil keeps what each place was changed by; a place that was changed back isn't there.
func (k *kept) spoil(at int, by byte) {
	if k.bad[at] ^= by; k.bad[at] == 0 {
		delete(k.bad, at)
	}
}

// scan is the ids that can be got, the least one taken again and again.
func (s slow) scan() []Id {
	var left, l []Id
	for _, k := range s {
		if k.good() {
			left = append(left, k.id)
		}
	}
	for len(left) > 0 {
		least := 0
		for i, id := range left {
			if ahead(id, left[least]) {
				least = i
			}
		}
		l = append(l, left[least])
		left = slices.Delete(left, least, least+1)
	}
	return l
}

// ahead tells whether a comes ahead of b.
func ahead(a, b Id) bool {
	switch {
	case a.Task != b.Task:
		return a.Task < b.Task
	case a.Attempt != b.Attempt:
		return a.Attempt < b.Attempt
	case a.Part != b.Part:
		return a.Part < b.Part
	}
	return a.At < b.At
}

func (s slow) drop(task, attempt int) int {
	n := 0
	for name, k := range s {
		if k.id.Task == task && k.id.Attempt == attempt {
			delete(s, name)
			n++
		}
	}
	return n
}

func TestActsOfChance(t *testing.T) {
	for seed := range 40 {
		c := chance(seed)
		d, s := made(t, 1<<16), slow{}
		for range 300 {
			act(t, &c, d, s)
			scans(t, d, s.scan()...)
			if t.Failed() {
				t.Fatalf("seed %d", seed)
			}
		}
		for _, k := range s {
			if k.good() {
				gets(t, d, k.id, k.piece, api.OK)
			} else if piece, e := Get(d, k.id); piece != "" || e == api.OK {
				t.Errorf("Get(%v) = %s, %d", k.id, clip(piece), e)
			}
		}
	}
}

// act does something of chance to both.
func act(t *testing.T, c *chance, d *disk.Disk, s slow) {
	t.Helper()
	id := c.id()
	name := slowName(id)
	k, there := s[name]
	switch c.below(12) {
	default:
		piece := c.text(c.below(40))
		put(t, d, id, piece)
		s[name] = &kept{id, piece, map[int]byte{}}
	case 0, 1:
		drops(t, d, id.Task, id.Attempt, s.drop(id.Task, id.Attempt))
	case 2, 3, 4:
		switch {
		case !there:
			gets(t, d, id, "", api.ErrNone)
		case k.good():
			gets(t, d, id, k.piece, api.OK)
		default:
			gets(t, d, id, "", api.ErrCrc)
		}
	case 5, 6, 7:
		// Few places and bytes, so that now and then one is changed back.
		at, by := c.below(2), byte(1+c.below(2))
		if names := slices.Sorted(maps.Keys(s)); len(names) > 0 {
			name := names[c.below(len(names))]
			d.Spoil(name, at, by)
			s[name].spoil(at, by)
		}
	case 8:
		if c.below(20) == 0 {
			if n := d.Lose(); n != len(s) {
				t.Errorf("Lose = %d, want %d", n, len(s))
			}
			clear(s)
		}
	}
}

// Rule 4: what is handed in isn't kept, what is handed out is new memory.

// shares tells whether two texts share memory.
func shares(a, b string) bool {
	if a == "" || b == "" {
		return false
	}
	from, other := uintptr(unsafe.Pointer(unsafe.StringData(a))), uintptr(unsafe.Pointer(unsafe.StringData(b)))
	return from < other+uintptr(len(b)) && other < from+uintptr(len(a))
}

// view is bytes as a text that changes with them.
func view(b []byte) string { return unsafe.String(unsafe.SliceData(b), len(b)) }

func TestWhatIsHandedInIsNotKept(t *testing.T) {
	d := made(t, 1000)
	id := Id{1, 20, 3, 0}
	piece := []byte("rye, and room")
	put(t, d, id, view(piece[:3]))
	frame, _ := Frame(id, view(piece[:3]))
	laid := []byte(frame)
	_, opened, _ := Open(view(laid))
	name := []byte("t1a20p3f0")
	Named(view(name))
	if string(piece) != "rye, and room" || string(laid) != frame || string(name) != "t1a20p3f0" {
		t.Errorf("it is %s, %s, %s now", clip(piece), clip(laid), clip(name))
	}
	clear(piece)
	clear(laid)
	gets(t, d, id, "rye", api.OK)
	if frame != sealed(bare(id, "rye")) || opened != "rye" {
		t.Errorf("it is %s, %s now", clip(frame), clip(opened))
	}
}

func TestWhatIsHandedOutIsNew(t *testing.T) {
	d := made(t, 1000)
	id, piece := Id{1, 20, 3, 0}, strings.Clone("rye and oats")
	put(t, d, id, piece)
	a, _ := Get(d, id)
	b, _ := Get(d, id)
	f, _ := Frame(id, piece)
	g, _ := Frame(id, piece)
	_, o, _ := Open(f)
	_, p, _ := Open(f)
	held, _ := d.Read(Name(id))
	empty, _ := Frame(id, "")
	all := []string{piece, a, b, f, g, o, p, held, empty, Name(id), Name(id), Name(Id{}), Name(Id{})}
	for i, s := range all {
		for _, other := range all[:i] {
			if shares(s, other) {
				t.Errorf("%s and %s share memory", clip(s), clip(other))
			}
		}
	}
	d.Spoil(Name(id), 8, 255)
	d.Lose()
	if a != piece || b != piece {
		t.Errorf("what was got is %s, %s now", clip(a), clip(b))
	}
}

func TestWhatIsScannedIsNew(t *testing.T) {
	d := made(t, 1000)
	want := []Id{{1, 2, 3, 4}, {1, 2, 3, 5}, {2, 0, 0, 0}}
	for _, id := range want {
		put(t, d, id, "")
	}
	l := Scan(d)
	k := Scan(d)
	for i := range l {
		l[i] = Id{}
	}
	clear(l[:cap(l)])
	if !slices.Equal(k, want) {
		t.Errorf("the other ids are %v now", k)
	}
	scans(t, d, want...)
	drops(t, d, 1, 2, 2)
	if !slices.Equal(k, want) {
		t.Errorf("the other ids are %v now", k)
	}
}

func TestDisksAtOneTime(t *testing.T) {
	var all sync.WaitGroup
	for i := range 8 {
		all.Go(func() {
			d, _ := disk.New(1 << 16)
			for j := range 100 {
				if e := Put(d, Id{Task: i, At: j}, strconv.Itoa(j)); e != api.OK {
					t.Errorf("Put = %d", e)
				}
			}
			for j := range 100 {
				gets(t, d, Id{Task: i, At: j}, strconv.Itoa(j), api.OK)
			}
			if l := Scan(d); len(l) != 100 {
				t.Errorf("Scan of disk %d has %d", i, len(l))
			}
			drops(t, d, i, 0, 100)
		})
	}
	all.Wait()
}
