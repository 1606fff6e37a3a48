// Package heap: a heap of things that have an order.
package heap

// Ordered is what may wait in a heap.
type Ordered[T any] interface {
	Before(other T) bool
}

// Heap gives back first what comes first. Each of its things is not before the one at (i-1)/2, so that the first one is at 0.
type Heap[T Ordered[T]] []T

// Len is how many things wait.
func (h Heap[T]) Len() int { return len(h) }

// First is what Take would take. The heap must not be empty.
func (h Heap[T]) First() T { return h[0] }

// Add lets one more thing wait.
func (h *Heap[T]) Add(thing T) {
	*h = append(*h, thing)
	h.rise(len(*h) - 1)
}

// Take takes the first thing out. The heap must not be empty.
func (h *Heap[T]) Take() T {
	list, last := *h, len(*h)-1
	first := list[0]
	list[0] = list[last]
	clear(list[last:])
	*h = list[:last]
	h.sink(0)
	return first
}

// rise brings a thing up to its place, past those that it is before.
func (h Heap[T]) rise(at int) {
	for at > 0 {
		above := (at - 1) / 2
		if !h[at].Before(h[above]) {
			return
		}
		h[at], h[above] = h[above], h[at]
		at = above
	}
}

// sink brings a thing down to its place, past those that are before it.
func (h Heap[T]) sink(at int) {
	for {
		least := h.least(at)
		if least == at {
			return
		}
		h[at], h[least] = h[least], h[at]
		at = least
	}
}

// least is where the first one is of a thing and the two below it.
func (h Heap[T]) least(at int) int {
	least := at
	for below := 2*at + 1; below <= 2*at+2 && below < len(h); below++ {
		if h[below].Before(h[least]) {
			least = below
		}
	}
	return least
}
