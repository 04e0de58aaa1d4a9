package sorter

// heap is items of which the one that comes first, by an order, is at hand: each has two others below it, at twice its place and one or two more, and neither of them comes ahead of it.
type heap[T any] struct {
	items []T
	ahead func(a, b T) bool
}

// put puts an item in.
func (h *heap[T]) put(item T) {
	h.items = append(h.items, item)
	at := len(h.items) - 1
rise:
	above := (at - 1) / 2
	if at > 0 && h.ahead(h.items[at], h.items[above]) {
		h.items[at], h.items[above] = h.items[above], h.items[at]
		at = above
		goto rise
	}
}

// take takes the first item out, if there is one.
func (h *heap[T]) take() (T, bool) {
	var first T
	last := len(h.items) - 1
	if last < 0 {
		return first, false
	}
	first, h.items[0] = h.items[0], h.items[last]
	h.items = h.items[:last]
	h.sink()
	return first, true
}

// sink brings the item at the beginning down to where it belongs.
func (h *heap[T]) sink() {
	at := 0
down:
	first := at
	for below := 2*at + 1; below <= 2*at+2 && below < len(h.items); below++ {
		if h.ahead(h.items[below], h.items[first]) {
			first = below
		}
	}
	if first != at {
		h.items[at], h.items[first] = h.items[first], h.items[at]
		at = first
		goto down
	}
}
