package runs

// heap gives of its items always the one that comes before all others.
type heap[T any] struct {
	items  []T
	before func(a, b T) bool
}

func (h *heap[T]) push(item T) {
	h.items = append(h.items, item)
	for at := len(h.items) - 1; at > 0; {
		above := (at - 1) / 2
		if !h.before(h.items[at], h.items[above]) {
			return
		}
		h.swap(at, above)
		at = above
	}
}

// pop takes the first item out of a heap that has one.
func (h *heap[T]) pop() T {
	first, last := h.items[0], len(h.items)-1
	h.items[0] = h.items[last]
	h.items = h.items[:last]
	at, least := 0, h.leastFrom(0)
	for at != least {
		h.swap(at, least)
		at, least = least, h.leastFrom(least)
	}
	return first
}

// leastFrom tells which of an item and the two below it comes first.
func (h *heap[T]) leastFrom(at int) int {
	least := at
	for below := 2*at + 1; below <= 2*at+2 && below < len(h.items); below++ {
		if h.before(h.items[below], h.items[least]) {
			least = below
		}
	}
	return least
}

func (h *heap[T]) swap(i, j int) {
	h.items[i], h.items[j] = h.items[j], h.items[i]
}
