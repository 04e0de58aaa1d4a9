package disk

import (
	"bytes"
	"fmt"
	"math"
	"slices"
	"strconv"
	"strings"
	"sync"
	"testing"
	"unsafe"

	"stook/api"
)

// clip is something as a fault tells it.
func clip(v any) string {
	s := strconv.QuoteToASCII(fmt.Sprint(v))
	if len(s) > 300 {
		return s[:150] + ".." + s[len(s)-150:]
	}
	return s
}

// chance is numbers that look like those of chance, and are the same each time.
type chance uint32

func (c *chance) below(n int) int {
	*c = *c*1664525 + 1013904223
	return int(*c>>16) % n
}

// text is so many bytes of chance.
func (c *chance) text(n int) string {
	b := make([]byte, n)
	for i := range b {
		b[i] = byte(c.below(256))
	}
	return string(b)
}

// made is a disk of this size.
func made(t *testing.T, size int) *Disk {
	t.Helper()
	d, e := New(size)
	if d == nil || e != api.OK {
		t.Fatalf("New(%d) = %v, %d", size, d, e)
	}
	return d
}

// lay writes what must find room.
func lay(t *testing.T, d *Disk, name, s string) {
	t.Helper()
	if e := d.Write(name, s); e != api.OK {
		t.Fatalf("Write(%s, %s) = %d", clip(name), clip(s), e)
	}
}

// holds says that a name holds these bytes.
func holds(t *testing.T, d *Disk, name, want string) {
	t.Helper()
	if s, e := d.Read(name); s != want || e != api.OK {
		t.Errorf("Read(%s) = %s, %d, want %s", clip(name), clip(s), e, clip(want))
	}
}

// lacks says that there is no such name.
func lacks(t *testing.T, d *Disk, name string) {
	t.Helper()
	if s, e := d.Read(name); s != "" || e != api.ErrNone {
		t.Errorf("Read(%s) = %s, %d, want none", clip(name), clip(s), e)
	}
}

// has says what names there are, and what room.
func has(t *testing.T, d *Disk, room int, names ...string) {
	t.Helper()
	if got := d.Names(); !slices.Equal(got, names) {
		t.Errorf("Names = %s, want %s", clip(got), clip(names))
	}
	if got := d.Room(); got != room {
		t.Errorf("Room = %d, want %d", got, room)
	}
}

// The second rule: a disk as a list of what is on it, in the names' order, with a name's bytes gone through one by one.

type entry struct {
	name  string
	bytes []byte
}

type slow struct {
	size int
	l    []entry
}

// at is where a name stands, or where it belongs, and whether it is there.
func (d *slow) at(name string) (int, bool) {
	for i, e := range d.l {
		if bytes.Compare([]byte(e.name), []byte(name)) >= 0 {
			return i, e.name == name
		}
	}
	return len(d.l), false
}

func (d *slow) room() int {
	room := d.size
	for _, e := range d.l {
		room -= 16
		for range e.name {
			room--
		}
		room -= len(e.name) - len([]rune(e.name))
		for range e.bytes {
			room--
		}
	}
	return room
}

func (d *slow) write(name, s string) api.Errno {
	if len(name) < 1 || len(name) > 64 {
		return api.ErrArg
	}
	behind := slow{d.size, slices.Clone(d.l)}
	at, ok := behind.at(name)
	if ok {
		behind.l = slices.Delete(behind.l, at, at+1)
	}
	behind.l = slices.Insert(behind.l, at, entry{name, []byte(s)})
	if behind.room() < 0 {
		return api.ErrFull
	}
	*d = behind
	return api.OK
}

func (d *slow) read(name string) (string, api.Errno) {
	at, ok := d.at(name)
	if !ok {
		return "", api.ErrNone
	}
	return string(d.l[at].bytes), api.OK
}

func (d *slow) delete(name string) api.Errno {
	at, ok := d.at(name)
	if !ok {
		return api.ErrNone
	}
	d.l = slices.Delete(d.l, at, at+1)
	return api.OK
}

func (d *slow) names() []string {
	var l []string
	for _, e := range d.l {
		l = append(l, e.name)
	}
	return l
}

func (d *slow) lose() int {
	n := len(d.l)
	d.l = nil
	return n
}

func (d *slow) spoil(name string, at int, by byte) bool {
	i, ok := d.at(name)
	if !ok || by == 0 || len(d.l[i].bytes) == 0 {
		return false
	}
	n := len(d.l[i].bytes)
	b := slices.Clone(d.l[i].bytes)
	place := at - n*int(math.Floor(float64(at)/float64(n)))
	b[place] = (b[place] | by) &^ (b[place] & by)
	d.l[i].bytes = b
	return true
}

func (d *slow) copy() *slow { return &slow{d.size, slices.Clone(d.l)} }

// same says that a disk answers as the second rule has it.
func same(t *testing.T, d *Disk, s *slow) {
	t.Helper()
	has(t, d, s.room(), s.names()...)
	for _, name := range s.names() {
		want, _ := s.read(name)
		holds(t, d, name, want)
	}
}

// 14.1

func TestNew(t *testing.T) {
	for _, size := range []int{0, 1, 20, 4096, 1<<22 - 1, 1 << 22} {
		has(t, made(t, size), size)
	}
	for _, size := range []int{-1, 1<<22 + 1, 1 << 32, math.MinInt, math.MaxInt} {
		if d, e := New(size); d != nil || e != api.ErrArg {
			t.Errorf("New(%d) = %v, %d", size, d, e)
		}
	}
}

func TestTheExample(t *testing.T) {
	d := made(t, 20)
	lay(t, d, "a", "xyz")
	has(t, d, 0, "a")
	if e := d.Write("b", ""); e != api.ErrFull {
		t.Errorf("Write = %d", e)
	}
	has(t, d, 0, "a")
	holds(t, d, "a", "xyz")
	lacks(t, d, "b")
}

func TestNamesOfOneToSixtyFourBytes(t *testing.T) {
	for n := range 70 {
		name := strings.Repeat("\xff", n)
		d := made(t, 100)
		e := d.Write(name, "abc")
		if n < 1 || n > 64 {
			if e != api.ErrArg {
				t.Errorf("Write of a name of %d bytes = %d", n, e)
			}
			has(t, d, 100)
			lacks(t, d, name)
			continue
		}
		if e != api.OK {
			t.Errorf("Write of a name of %d bytes = %d", n, e)
		}
		has(t, d, 100-n-3-16, name)
		holds(t, d, name, "abc")
	}
}

func TestNamesAreBytes(t *testing.T) {
	d := made(t, 1000)
	// 22 letters of three bytes each are 66 bytes, 21 are 63.
	if e := d.Write(strings.Repeat("€", 22), ""); e != api.ErrArg {
		t.Errorf("Write = %d", e)
	}
	lay(t, d, strings.Repeat("€", 21), "")
	lay(t, d, "\x00", "nought")
	lay(t, d, "\n", "a line")
	lay(t, d, " ", "a blank")
	lay(t, d, "\xff\xfe", "no letters")
	for name, want := range map[string]string{"\x00": "nought", "\n": "a line", " ": "a blank", "\xff\xfe": "no letters"} {
		holds(t, d, name, want)
	}
	for _, name := range []string{"", "\x00\x00", "\xff", "\ufffd\ufffd", strings.Repeat("€", 22)} {
		lacks(t, d, name)
	}
	has(t, d, 1000-63-1-6-1-6-1-7-2-10-5*16, "\x00", "\n", " ", strings.Repeat("€", 21), "\xff\xfe")
}

func TestABadNameComesAheadOfNoRoom(t *testing.T) {
	d := made(t, 0)
	for _, name := range []string{"", strings.Repeat("n", 65), strings.Repeat("n", 5000)} {
		if e := d.Write(name, strings.Repeat("x", 5000)); e != api.ErrArg {
			t.Errorf("Write(%s) = %d", clip(name), e)
		}
	}
	if e := d.Write("n", ""); e != api.ErrFull {
		t.Errorf("Write = %d", e)
	}
	has(t, d, 0)
}

func TestWriteTakesAllRoomAndNoMore(t *testing.T) {
	for name := 1; name <= 64; name += 9 {
		for held := range 20 {
			for size := name + held + 10; size < name+held+25; size++ {
				d := made(t, size)
				want := api.OK
				if size < name+held+16 {
					want = api.ErrFull
				}
				if e := d.Write(strings.Repeat("n", name), strings.Repeat("x", held)); e != want {
					t.Errorf("Write of %d and %d bytes on %d = %d", name, held, size, e)
				}
				if want == api.ErrFull {
					has(t, d, size)
				} else {
					has(t, d, size-name-held-16, strings.Repeat("n", name))
				}
			}
		}
	}
}

func TestTheGreatestDisk(t *testing.T) {
	d := made(t, 1<<22)
	most := strings.Repeat("x", 1<<22-16-1)
	if e := d.Write("a", most+"x"); e != api.ErrFull {
		t.Errorf("Write = %d", e)
	}
	lay(t, d, "a", most)
	has(t, d, 0, "a")
	holds(t, d, "a", most)
	if e := d.Write("b", ""); e != api.ErrFull {
		t.Errorf("Write = %d", e)
	}
	if e := d.Write("a", strings.Repeat("x", 1<<24)); e != api.ErrFull {
		t.Errorf("Write = %d", e)
	}
	holds(t, d, "a", most)
}

func TestWhatANameHeldIsGone(t *testing.T) {
	d := made(t, 60)
	lay(t, d, "a", "0123456789")
	lay(t, d, "b", "0123456789")
	has(t, d, 60-27-27, "a", "b")
	// With what a holds now, 16 bytes and no more fit.
	if e := d.Write("a", strings.Repeat("x", 17)); e != api.ErrFull {
		t.Errorf("Write = %d", e)
	}
	holds(t, d, "a", "0123456789")
	has(t, d, 6, "a", "b")
	lay(t, d, "a", strings.Repeat("x", 16))
	has(t, d, 0, "a", "b")
	lay(t, d, "a", strings.Repeat("y", 16))
	has(t, d, 0, "a", "b")
	holds(t, d, "a", strings.Repeat("y", 16))
	lay(t, d, "a", "")
	has(t, d, 16, "a", "b")
	holds(t, d, "a", "")
	holds(t, d, "b", "0123456789")
}

func TestReadAndDelete(t *testing.T) {
	d := made(t, 200)
	lacks(t, d, "a")
	if e := d.Delete("a"); e != api.ErrNone {
		t.Errorf("Delete = %d", e)
	}
	lay(t, d, "a", "1")
	lay(t, d, "A", "2")
	lay(t, d, "aa", "")
	holds(t, d, "aa", "")
	for _, name := range []string{"", "b", "aaa", "a ", strings.Repeat("n", 65)} {
		lacks(t, d, name)
		if e := d.Delete(name); e != api.ErrNone {
			t.Errorf("Delete(%s) = %d", clip(name), e)
		}
	}
	has(t, d, 200-18-18-18, "A", "a", "aa")
	if e := d.Delete("a"); e != api.OK {
		t.Errorf("Delete = %d", e)
	}
	has(t, d, 200-18-18, "A", "aa")
	lacks(t, d, "a")
	if e := d.Delete("a"); e != api.ErrNone {
		t.Errorf("Delete = %d", e)
	}
	if e := d.Delete("aa"); e != api.OK {
		t.Errorf("Delete of what holds nothing = %d", e)
	}
	has(t, d, 200-18, "A")
	holds(t, d, "A", "2")
}

func TestNamesStandInOrder(t *testing.T) {
	d := made(t, 1<<16)
	var c chance
	var want []string
	for i := range 256 {
		want = append(want, string([]byte{byte(i)}), string([]byte{byte(i), 'a'}))
	}
	want = append(want, "t0a0p0f0", "t0a0p0f1", "t0a0p0f10", "t0a0p0f2", "t10a0p0f0", "t1a0p0f0", "tt", "é", "zz", "~~", "\xff\xff")
	slices.Sort(want)
	for _, i := range shuffled(&c, len(want)) {
		lay(t, d, want[i], "")
	}
	for range 5 {
		if got := d.Names(); !slices.Equal(got, want) {
			t.Fatalf("Names = %s, want %s", clip(got), clip(want))
		}
	}
}

// shuffled is the numbers below n, in an order of chance.
func shuffled(c *chance, n int) []int {
	l := make([]int, n)
	for i := range l {
		l[i] = i
		j := c.below(i + 1)
		l[i], l[j] = l[j], l[i]
	}
	return l
}

// 14.2

func TestLose(t *testing.T) {
	d := made(t, 1000)
	if n := d.Lose(); n != 0 {
		t.Errorf("Lose of nothing = %d", n)
	}
	for i := range 10 {
		for j := range i {
			lay(t, d, "n"+strconv.Itoa(j), strings.Repeat("x", j))
		}
		if n := d.Lose(); n != i {
			t.Errorf("Lose of %d = %d", i, n)
		}
		has(t, d, 1000)
		lacks(t, d, "n0")
	}
	lay(t, d, "n0", "anew")
	holds(t, d, "n0", "anew")
	has(t, d, 1000-22, "n0")
}

func TestSpoilAtAllPlaces(t *testing.T) {
	const held = "01234"
	for at := -30; at <= 30; at++ {
		d := made(t, 100)
		lay(t, d, "a", held)
		lay(t, d, "b", held)
		if !d.Spoil("a", at, 0x81) {
			t.Errorf("Spoil at %d", at)
		}
		want := []byte(held)
		want[(at+30)%5] ^= 0x81
		holds(t, d, "a", string(want))
		holds(t, d, "b", held)
		has(t, d, 100-22-22, "a", "b")
	}
}

func TestSpoilAtTheEndsOfNumbers(t *testing.T) {
	for _, n := range []int{1, 2, 3, 5, 7, 8, 64, 1000} {
		// MaxInt is n*q + r, and MinInt is one below what is opposite to it.
		r := math.MaxInt % n
		for at, want := range map[int]int{math.MaxInt: r, math.MinInt: (2*n - r - 1) % n, math.MinInt + 1: (n - r) % n, -n: 0, -n - 1: n - 1, n: 0} {
			d := made(t, 2000)
			lay(t, d, "a", strings.Repeat("x", n))
			if !d.Spoil("a", at, 'x') {
				t.Errorf("Spoil of %d at %d", n, at)
			}
			s, _ := d.Read("a")
			if got := strings.IndexByte(s, 0); got != want || strings.Count(s, "x") != n-1 {
				t.Errorf("Spoil of %d at %d is at %d, want %d", n, at, got, want)
			}
		}
	}
}

func TestSpoilByAllBytes(t *testing.T) {
	for by := range 256 {
		for _, held := range []byte{0, 1, 'a', 127, 128, 255} {
			d := made(t, 100)
			lay(t, d, "a", string([]byte{held}))
			if got := d.Spoil("a", 0, byte(by)); got != (by != 0) {
				t.Errorf("Spoil by %d = %v", by, got)
			}
			holds(t, d, "a", string([]byte{held ^ byte(by)}))
			d.Spoil("a", 0, byte(by))
			holds(t, d, "a", string([]byte{held}))
		}
	}
}

func TestSpoilOfNothing(t *testing.T) {
	d := made(t, 100)
	lay(t, d, "a", "")
	lay(t, d, "b", "x")
	for _, at := range []int{0, 1, -1, math.MinInt, math.MaxInt} {
		if d.Spoil("a", at, 1) || d.Spoil("c", at, 1) || d.Spoil("", at, 1) || d.Spoil("b", at, 0) || d.Spoil("a", at, 0) {
			t.Errorf("Spoil at %d of nothing", at)
		}
	}
	has(t, d, 100-17-18, "a", "b")
	holds(t, d, "a", "")
	holds(t, d, "b", "x")
}

func TestCopyIsLikeAndApart(t *testing.T) {
	d := made(t, 100)
	lay(t, d, "a", "123")
	lay(t, d, "b", "")
	c := d.Copy()
	has(t, c, 100-20-17, "a", "b")
	holds(t, c, "a", "123")
	// What befalls the one isn't seen by the other one, either way.
	for _, l := range [][2]*Disk{{d, c}, {c, d}} {
		one, other := l[0].Copy(), l[1].Copy()
		pair := []*Disk{one, other, one.Copy()}
		pair[0].Spoil("a", 0, 1)
		lay(t, pair[0], "c", "new")
		holds(t, pair[2], "a", "123")
		pair[0].Delete("b")
		has(t, pair[2], 100-20-17, "a", "b")
		pair[2].Lose()
		has(t, pair[0], 100-20-20, "a", "c")
		holds(t, pair[0], "a", "023")
		has(t, pair[1], 100-20-17, "a", "b")
	}
	d.Spoil("a", 0, 1)
	lay(t, d, "b", "4")
	holds(t, c, "a", "123")
	holds(t, c, "b", "")
	c.Spoil("a", 1, 1)
	c.Delete("b")
	holds(t, d, "a", "023")
	holds(t, d, "b", "4")
	if n := c.Lose(); n != 1 {
		t.Errorf("Lose = %d", n)
	}
	has(t, d, 100-20-18, "a", "b")
}

func TestCopyHasTheSize(t *testing.T) {
	for _, size := range []int{0, 16, 17, 1 << 22} {
		c := made(t, size).Copy()
		if c == nil {
			t.Fatalf("Copy of %d is nil", size)
		}
		has(t, c, size)
		want := api.OK
		if size < 17 {
			want = api.ErrFull
		}
		if e := c.Write("a", ""); e != want {
			t.Errorf("Write on a copy of %d = %d", size, e)
		}
	}
}

func TestOfNil(t *testing.T) {
	var d *Disk
	if e := d.Write("a", ""); e != api.ErrArg {
		t.Errorf("Write = %d", e)
	}
	lacks(t, d, "a")
	lacks(t, d, "")
	if e := d.Delete("a"); e != api.ErrNone {
		t.Errorf("Delete = %d", e)
	}
	has(t, d, 0)
	if n := d.Lose(); n != 0 {
		t.Errorf("Lose = %d", n)
	}
	if d.Spoil("a", 0, 1) {
		t.Errorf("Spoil")
	}
	if c := d.Copy(); c != nil {
		t.Errorf("Copy = %v", c)
	}
}

// 14.3

func TestActsOfChance(t *testing.T) {
	for seed := range 60 {
		c := chance(seed)
		size := []int{0, 30, 100, 400, 2000}[seed%5]
		d, s := made(t, size), &slow{size: size}
		for range 500 {
			d, s = act(t, &c, d, s)
			same(t, d, s)
			if d.Room() < 0 {
				t.Fatalf("Room = %d", d.Room())
			}
			if t.Failed() {
				t.Fatalf("seed %d", seed)
			}
		}
	}
}

// act does something of chance to both, and is what goes on behind it.
func act(t *testing.T, c *chance, d *Disk, s *slow) (*Disk, *slow) {
	t.Helper()
	names := []string{"a", "b", "bb", "c", "\x00", "€", strings.Repeat("l", 64), strings.Repeat("m", 65), ""}
	name := names[c.below(len(names))]
	switch c.below(20) {
	default:
		text := c.text(c.below([]int{2, 20, 200}[c.below(3)]))
		if got, want := d.Write(name, text), s.write(name, text); got != want {
			t.Errorf("Write(%s, %s) = %d, want %d", clip(name), clip(text), got, want)
		}
	case 0, 1, 2:
		if got, want := d.Delete(name), s.delete(name); got != want {
			t.Errorf("Delete(%s) = %d, want %d", clip(name), got, want)
		}
	case 3, 4, 5, 6:
		at, by := c.below(1000)-500, byte(c.below(4)*85)
		if got, want := d.Spoil(name, at, by), s.spoil(name, at, by); got != want {
			t.Errorf("Spoil(%s, %d, %d) = %v, want %v", clip(name), at, by, got, want)
		}
	case 7, 8, 9:
		got, e := d.Read(name)
		if want, f := s.read(name); got != want || e != f {
			t.Errorf("Read(%s) = %s, %d, want %s, %d", clip(name), clip(got), e, clip(want), f)
		}
	case 10:
		if c.below(5) == 0 {
			if got, want := d.Lose(), s.lose(); got != want {
				t.Errorf("Lose = %d, want %d", got, want)
			}
		}
	case 11:
		apart, rule := d.Copy(), s.copy()
		if c.below(2) == 0 {
			return apart, rule
		}
		apart.Lose()
	}
	return d, s
}

func TestManyNames(t *testing.T) {
	d := made(t, 1<<22)
	var names []string
	for i := range 2000 {
		name := "n" + strconv.Itoa(i)
		lay(t, d, name, name+name)
		names = append(names, name)
	}
	slices.Sort(names)
	room := 1 << 22
	for _, name := range names {
		room -= 3*len(name) + 16
		holds(t, d, name, name+name)
	}
	has(t, d, room, names...)
}

// Rule 4: what is handed in isn't kept, what is handed out is new memory.

// shares tells whether two texts share memory.
func shares(a, b string) bool {
	if a == "" || b == "" {
		return false
	}
	from, other := uintptr(unsafe.Pointer(unsafe.StringData(a))), uintptr(unsafe.Pointer(unsafe.StringData(b)))
	return from < other+uintptr(len(b)) && other < from+uintptr(len(a))
}

// view is bytes as a text that changes with them.
func view(b []byte) string { return unsafe.String(unsafe.SliceData(b), len(b)) }

func TestWhatIsHandedInIsNotKept(t *testing.T) {
	d := made(t, 1000)
	name, text := []byte("name"), []byte("text")
	lay(t, d, view(name), view(text))
	copy(name, "NAME")
	copy(text, "TEXT")
	holds(t, d, "name", "text")
	lacks(t, d, "NAME")
	has(t, d, 1000-24, "name")
	// A name that is there already is handed in by other memory.
	copy(name, "name")
	lay(t, d, view(name), view(text))
	copy(name, "NAME")
	copy(text, "text")
	holds(t, d, "name", "TEXT")
	lacks(t, d, "NAME")
	has(t, d, 1000-24, "name")
	copy(name, "name")
	d.Spoil(view(name), 0, 32)
	d.Read(view(name))
	copy(name, "NAME")
	holds(t, d, "name", "tEXT")
	has(t, d, 1000-24, "name")
	copy(name, "name")
	if e := d.Delete(view(name)); e != api.OK {
		t.Errorf("Delete = %d", e)
	}
	has(t, d, 1000)
}

func TestWhatIsHandedInIsNotChanged(t *testing.T) {
	name, text := []byte("name, and room"), []byte("text, and room")
	d := made(t, 100)
	lay(t, d, view(name[:4]), view(text[:4]))
	d.Spoil(view(name[:4]), 0, 255)
	d.Copy().Spoil(view(name[:4]), 1, 255)
	d.Lose()
	if string(name) != "name, and room" || string(text) != "text, and room" {
		t.Errorf("it is %s, %s now", clip(name), clip(text))
	}
}

func TestWhatIsHandedOutIsNew(t *testing.T) {
	d := made(t, 1000)
	name, text := strings.Clone("name"), strings.Clone("text")
	lay(t, d, name, text)
	lay(t, d, "other", "text")
	a, _ := d.Read("name")
	b, _ := d.Read("name")
	c, _ := d.Copy().Read("name")
	l, k, m := d.Names(), d.Names(), d.Copy().Names()
	all := slices.Concat([]string{name, text, a, b, c}, l, k, m)
	for i, s := range all {
		for _, other := range all[:i] {
			if shares(s, other) {
				t.Errorf("%s and %s share memory", s, other)
			}
		}
	}
	// Neither is what was read changed by what comes behind it.
	d.Spoil("name", 0, 255)
	lay(t, d, "name", "TEXT")
	d.Lose()
	if a != "text" || b != "text" || !slices.Equal(l, []string{"name", "other"}) {
		t.Errorf("what was handed out is %s, %s, %s now", clip(a), clip(b), clip(l))
	}
	l[0] = "changed"
	_ = append(l[:1], "changed")
	if !slices.Equal(k, []string{"name", "other"}) {
		t.Errorf("the other names are %s now", clip(k))
	}
}

func TestDisksAtOneTime(t *testing.T) {
	var all sync.WaitGroup
	for i := range 8 {
		all.Go(func() {
			d, e := New(1000)
			for j := range 200 {
				name := "n" + strconv.Itoa(j%10)
				if e == api.OK {
					e = d.Write(name, strings.Repeat("x", (i+j)%10))
				}
				d.Spoil(name, j, byte(i))
			}
			if e != api.OK || len(d.Names()) != 10 {
				t.Errorf("disk %d: %d, %v", i, e, d.Names())
			}
		})
	}
	all.Wait()
}
