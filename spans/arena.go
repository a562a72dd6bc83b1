package spans

import "math"

// none is the place of the node that stands for an empty tree.
const none = 0

// The two sides of a node, by which its subtrees are numbered.
const (
	lesser = iota
	greater
)

// node is a span in an AVL tree, with the places of its two subtrees; first and
// last are the least and the greatest end of the whole tree under it.
type node struct {
	span        Span
	below       [2]int
	height      int
	first, last int
}

// arena has the nodes of all trees. Those that are free hang on one another by
// their lesser sides.
type arena struct {
	nodes []node
	free  int
}

func newArena() arena {
	// The ends of an empty tree are such that they never count.
	return arena{nodes: []node{{first: math.MaxInt, last: math.MinInt}}}
}

// grow gives the place of a new tree of one span.
func (a *arena) grow(s Span) int {
	fresh := node{span: s, height: 1, first: s.To, last: s.To}
	at := a.free
	if at == none {
		a.nodes = append(a.nodes, fresh)
		return len(a.nodes) - 1
	}
	a.free = a.nodes[at].below[lesser]
	a.nodes[at] = fresh
	return at
}

func (a *arena) release(at int) {
	a.nodes[at] = node{below: [2]int{a.free, none}}
	a.free = at
}

func (a *arena) has(at int, s Span) bool {
	for at != none && a.nodes[at].span != s {
		at = a.nodes[at].below[a.side(at, s)]
	}
	return at != none
}

// side tells on which side of a node a span belongs that isn't the node's own.
func (a *arena) side(at int, s Span) int {
	if compare(s, a.nodes[at].span) < 0 {
		return lesser
	}
	return greater
}

// put hangs a tree of one span into a tree that doesn't have it. This call and
// those below give the new root of the tree that they have changed.
func (a *arena) put(at, fresh int) int {
	if at == none {
		return fresh
	}
	side := a.side(at, a.nodes[fresh].span)
	a.nodes[at].below[side] = a.put(a.nodes[at].below[side], fresh)
	return a.balance(at)
}

// take takes a span out of a tree that has it.
func (a *arena) take(at int, s Span) int {
	if a.nodes[at].span == s {
		return a.unroot(at)
	}
	side := a.side(at, s)
	a.nodes[at].below[side] = a.take(a.nodes[at].below[side], s)
	return a.balance(at)
}

// unroot takes the root out of a tree; the next greater node comes in its stead.
func (a *arena) unroot(at int) int {
	below := a.nodes[at].below
	a.release(at)
	if below[greater] == none {
		return below[lesser]
	}
	next, rest := a.parted(below[greater])
	a.nodes[next].below = [2]int{below[lesser], rest}
	return a.balance(next)
}

// parted parts the least node of a tree from the rest.
func (a *arena) parted(at int) (least, rest int) {
	below := a.nodes[at].below
	if below[lesser] == none {
		return at, below[greater]
	}
	least, rest = a.parted(below[lesser])
	a.nodes[at].below[lesser] = rest
	return least, a.balance(at)
}

// balance mends a node whose subtrees are as they should be, with heights that
// differ by two at most.
func (a *arena) balance(at int) int {
	for side, high := range a.nodes[at].below {
		if a.nodes[high].height <= a.nodes[a.nodes[at].below[1-side]].height+1 {
			continue
		}
		outer, inner := a.nodes[high].below[side], a.nodes[high].below[1-side]
		if a.nodes[inner].height > a.nodes[outer].height {
			a.nodes[at].below[side] = a.lift(high, 1-side)
		}
		return a.lift(at, side)
	}
	a.refresh(at)
	return at
}

// lift turns a tree so that the node on one side of its root is the new root.
func (a *arena) lift(at, side int) int {
	up := a.nodes[at].below[side]
	a.nodes[at].below[side] = a.nodes[up].below[1-side]
	a.nodes[up].below[1-side] = at
	a.refresh(at)
	a.refresh(up)
	return up
}

// refresh works out what a node knows of the tree under it.
func (a *arena) refresh(at int) {
	n := a.nodes[at]
	x, y := a.nodes[n.below[lesser]], a.nodes[n.below[greater]]
	n.height = 1 + max(x.height, y.height)
	n.first = min(n.span.To, x.first, y.first)
	n.last = max(n.span.To, x.last, y.last)
	a.nodes[at] = n
}

// soonest gives a span of a tree that ends no later than any other there.
func (a *arena) soonest(at int) Span {
	first := a.nodes[at].first
	for a.nodes[at].span.To != first {
		side := lesser
		if a.nodes[a.nodes[at].below[lesser]].first != first {
			side = greater
		}
		at = a.nodes[at].below[side]
	}
	return a.nodes[at].span
}

// walk yields the spans of a tree that overlap, in their order, and tells
// whether more are wanted.
func (a *arena) walk(at, from, to int, yield func(Span) bool) bool {
	n := a.nodes[at]
	if at == none || n.last <= from {
		return true
	}
	if !a.walk(n.below[lesser], from, to, yield) {
		return false
	}
	if n.span.From >= to {
		return true
	}
	if n.span.To > from && !yield(n.span) {
		return false
	}
	return a.walk(n.below[greater], from, to, yield)
}
