package spans

import (
	"slices"
	"testing"

	"proctor/api"
)

// grown gives the spans under a node in their order, and looks at what every
// node there knows.
func grown(t *testing.T, a *arena, at int) []Span {
	t.Helper()
	if at == none {
		return nil
	}
	n := a.nodes[at]
	x, y := a.nodes[n.below[lesser]], a.nodes[n.below[greater]]
	list := append(grown(t, a, n.below[lesser]), n.span)
	list = append(list, grown(t, a, n.below[greater])...)
	first, last := list[0].To, list[0].To
	for _, s := range list {
		first, last = min(first, s.To), max(last, s.To)
	}
	if n.first != first || n.last != last {
		t.Errorf("a node knows the ends %d and %d; they are %d and %d", n.first, n.last, first, last)
	}
	if n.height != 1+max(x.height, y.height) || x.height-y.height > 1 || y.height-x.height > 1 {
		t.Errorf("a node of height %d over %d and %d", n.height, x.height, y.height)
	}
	return list
}

// sound looks at all trees of a forest, and at the nodes that none of them has.
func sound(t *testing.T, f *Forest) {
	t.Helper()
	all := 0
	for key, root := range f.roots {
		list := grown(t, &f.trees, root)
		if len(list) == 0 {
			t.Errorf("key %q has a root without spans", key)
		}
		if !slices.IsSortedFunc(list, compare) {
			t.Errorf("key %q: %v", key, list)
		}
		all += len(list)
	}
	free := 0
	for at := f.trees.free; at != none; at = f.trees.nodes[at].below[lesser] {
		free++
	}
	if all != f.count || 1+all+free != len(f.trees.nodes) {
		t.Errorf("%d spans in trees, count %d; %d nodes free of %d", all, f.count, free, len(f.trees.nodes))
	}
	if empty := newArena().nodes[none]; f.trees.nodes[none] != empty {
		t.Errorf("the empty tree is %v", f.trees.nodes[none])
	}
}

// Every node keeps what it must, whatever comes and goes, and its place in the
// arena is used again.
func TestNodes(t *testing.T) {
	f := New()
	dice := uint64(14)
	below := func(n int) int {
		dice = dice*6364136223846793005 + 1442695040888963407
		return int(dice >> 33 % uint64(n))
	}
	most := 0
	for step := range 6000 {
		key := "abcdef"[below(6):][:1]
		s := Span{From: below(30), Id: below(4)}
		s.To = s.From + below(20)
		switch {
		case step%500 == 499:
			f.Drop(below(60))
		case below(2) == 0:
			f.Remove(key, s)
		default:
			f.Insert(key, s)
		}
		most = max(most, f.Count())
		if step%10 == 9 {
			sound(t, f)
		}
	}
	if n := len(f.trees.nodes); n != most+1 {
		t.Errorf("%d nodes for at most %d spans at one time", n, most)
	}
	f.Drop(api.MaxTime)
	sound(t, f)
	if len(f.roots) != 0 {
		t.Errorf("%d keys without spans have roots", len(f.roots))
	}
}

// A walk doesn't go where the greatest end, or the order, tells that nothing
// overlaps: the ways down from there lead out of the arena, and would panic.
func TestWalkGoesRound(t *testing.T) {
	for from := 0; from <= 400; from += 7 {
		for to := from - 20; to <= from+20; to += 4 {
			f := New()
			for i := range 300 {
				f.Insert("k", Span{From: i, To: i + i*37%50, Id: i})
			}
			want := f.Overlap("k", from, to)
			barred := 0
			for at := 1; at < len(f.trees.nodes); at++ {
				n := &f.trees.nodes[at]
				switch {
				case n.last <= from:
					n.below = [2]int{-1, -1}
					barred++
				case n.span.From >= to:
					n.below[greater] = -1
					barred++
				}
			}
			if got := f.Overlap("k", from, to); !slices.Equal(got, want) {
				t.Errorf("Overlap(%d, %d) = %v; want %v", from, to, got, want)
			}
			if barred == 0 {
				t.Errorf("nothing is barred from %d to %d", from, to)
			}
		}
	}
}
