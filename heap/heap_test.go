package heap

import (
	"math/rand"
	"slices"
	"testing"
)

// guest comes by its rank; its number tells it from others of the same rank.
type guest struct{ rank, number int }

func (g guest) Before(other guest) bool { return g.rank < other.rank }

func TestTheFirstComesFirst(t *testing.T) {
	chance := rand.New(rand.NewSource(1))
	for size := range 200 {
		var h Heap[guest]
		var want []int
		seen := map[int]int{}
		for i := range size {
			g := guest{chance.Intn(1 + size/2), i}
			h.Add(g)
			want = append(want, g.rank)
		}
		slices.Sort(want)
		for i, rank := range want {
			if h.Len() != size-i {
				t.Fatalf("%d wait, want %d", h.Len(), size-i)
			}
			first := h.First()
			if got := h.Take(); got != first || got.rank != rank {
				t.Fatalf("took %v, first was %v, want rank %d", got, first, rank)
			}
			seen[first.number]++
		}
		if h.Len() != 0 || len(seen) != size {
			t.Fatalf("%d are left of %d, %d were seen", h.Len(), size, len(seen))
		}
	}
}

func TestAddingBetweenTaking(t *testing.T) {
	chance := rand.New(rand.NewSource(2))
	var h Heap[guest]
	var list []int
	for i := range 20000 {
		if chance.Intn(2) == 0 || len(list) == 0 {
			g := guest{chance.Intn(1000), i}
			h.Add(g)
			list = append(list, g.rank)
			continue
		}
		least := slices.Index(list, slices.Min(list))
		if got := h.Take(); got.rank != list[least] {
			t.Fatalf("took %v, want rank %d", got, list[least])
		}
		list = slices.Delete(list, least, least+1)
	}
	if h.Len() != len(list) {
		t.Errorf("%d wait, want %d", h.Len(), len(list))
	}
}

// TestNothingIsKept: what has been taken out is not held by the heap's spare room.
func TestNothingIsKept(t *testing.T) {
	var h Heap[guest]
	for i := range 10 {
		h.Add(guest{i, i + 1})
	}
	for range 4 {
		h.Take()
	}
	for _, g := range h[len(h):10] {
		if g != (guest{}) {
			t.Errorf("%v is kept", g)
		}
	}
}
