package sorter

import (
	"slices"
	"testing"
)

// taken is all items of a heap, in the order in which they are taken.
func taken[T any](h *heap[T]) []T {
	var l []T
	for item, ok := h.take(); ok; item, ok = h.take() {
		l = append(l, item)
	}
	return l
}

// rows is all rows of so many numbers below another one.
func rows(size, below int) [][]int {
	l := [][]int{nil}
	for range size {
		var longer [][]int
		for _, row := range l {
			for n := range below {
				longer = append(longer, append(slices.Clone(row), n))
			}
		}
		l = longer
	}
	return l
}

func less(a, b int) bool { return a < b }

func TestAHeapHandsOutInItsOrder(t *testing.T) {
	for size := range 7 {
		for _, row := range rows(size, 5) {
			up, down := heap[int]{ahead: less}, heap[int]{ahead: func(a, b int) bool { return b < a }}
			for _, n := range row {
				up.put(n)
				down.put(n)
			}
			want := slices.Sorted(slices.Values(row))
			if got := taken(&up); !slices.Equal(got, want) {
				t.Fatalf("%v comes out as %v, want %v", row, got, want)
			}
			slices.Reverse(want)
			if got := taken(&down); !slices.Equal(got, want) {
				t.Fatalf("%v comes out backwards as %v, want %v", row, got, want)
			}
		}
	}
}

func TestAHeapOfNothing(t *testing.T) {
	h := heap[string]{ahead: func(a, b string) bool { return a < b }}
	for range 3 {
		if item, ok := h.take(); item != "" || ok {
			t.Errorf("take of nothing = %q, %v", item, ok)
		}
		h.put("a")
		if item, ok := h.take(); item != "a" || !ok {
			t.Errorf("take = %q, %v", item, ok)
		}
	}
}

func TestAHeapPutAndTakenByTurns(t *testing.T) {
	var ch chance
	h := heap[int]{ahead: less}
	var in []int
	for range 20000 {
		if ch.below(5) < 3 {
			n := ch.below(50)
			h.put(n)
			in = append(in, n)
			continue
		}
		item, ok := h.take()
		if ok != (len(in) > 0) {
			t.Fatalf("take of %d items = %v", len(in), ok)
		}
		if !ok {
			continue
		}
		if item != slices.Min(in) {
			t.Fatalf("take = %d, want %d", item, slices.Min(in))
		}
		at := slices.Index(in, item)
		in = slices.Delete(in, at, at+1)
	}
}
