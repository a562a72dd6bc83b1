package viol

import (
	"cmp"
	"slices"

	"proctor/api"
)

// Top keeps the first violations.
type Top struct {
	limit, total int
	// held is a heap with the last of the first violations at its head: that is
	// the one that goes when another comes before it.
	held []numbered
}

// numbered is a violation and the how-manieth it was put: a heap alone doesn't
// keep violations that are alike in the order as they came.
type numbered struct {
	viol   api.Viol
	number int
}

func compareNumbered(a, b numbered) int {
	return cmp.Or(Compare(a.viol, b.viol), cmp.Compare(a.number, b.number))
}

// New makes an empty top.
func New(limit int) (*Top, api.Errno) {
	if !within(limit, 0, api.MaxList) {
		return nil, api.ErrMost
	}
	return &Top{limit: limit}, api.OK
}

// Put puts a violation in.
func (t *Top) Put(v api.Viol) api.Errno {
	if !Valid(v) {
		return api.ErrViol
	}
	t.hold(numbered{v, t.total})
	t.total++
	return api.OK
}

// hold keeps a violation if it is one of the first.
func (t *Top) hold(n numbered) {
	switch {
	case len(t.held) < t.limit:
		t.held = append(t.held, n)
		rise(t.held)
	case t.limit > 0 && compareNumbered(n, t.held[0]) < 0:
		t.held[0] = n
		sink(t.held)
	}
}

// rise makes a heap again of one whose last item is new.
func rise(heap []numbered) {
	for at := len(heap) - 1; at > 0; {
		above := (at - 1) / 2
		if compareNumbered(heap[at], heap[above]) < 0 {
			return
		}
		heap[at], heap[above] = heap[above], heap[at]
		at = above
	}
}

// sink makes a heap again of one whose head is new.
func sink(heap []numbered) {
	for at, last := 0, lastOf(heap, 0); at != last; last = lastOf(heap, at) {
		heap[at], heap[last] = heap[last], heap[at]
		at = last
	}
}

// lastOf tells which of an item and the two below it comes last in the order.
func lastOf(heap []numbered, at int) int {
	last := at
	for below := 2*at + 1; below <= 2*at+2 && below < len(heap); below++ {
		if compareNumbered(heap[below], heap[last]) > 0 {
			last = below
		}
	}
	return last
}

// List gives the first violations, in order.
func (t *Top) List() []api.Viol {
	list := make([]api.Viol, 0, len(t.held))
	for _, n := range slices.SortedFunc(slices.Values(t.held), compareNumbered) {
		list = append(list, n.viol)
	}
	return list
}

// Total tells how many were put.
func (t *Top) Total() int { return t.total }
