package graph_test

import (
	"slices"
	"testing"

	"proctor/api"
	"proctor/graph"
)

// dice is a source of numbers that is the same in every run.
type dice uint64

func (d *dice) below(n int) int {
	*d = *d*6364136223846793005 + 1442695040888963407
	return int(uint64(*d) >> 33 % uint64(n))
}

// model is a graph as a plain list of edges in their order.
type model struct {
	n    int
	list []graph.Edge
}

func modelBefore(a, b graph.Edge) bool {
	if a.From != b.From {
		return a.From < b.From
	}
	if a.To != b.To {
		return a.To < b.To
	}
	return a.Label < b.Label
}

func (m *model) add(e graph.Edge) api.Errno {
	switch {
	case e.From < 0, e.From >= m.n, e.To < 0, e.To >= m.n:
		return api.ErrNode
	case e.Label < 1, e.Label > 8:
		return api.ErrLabel
	case slices.Contains(m.list, e):
		return api.ErrEdge
	}
	at := len(m.list)
	for at > 0 && modelBefore(e, m.list[at-1]) {
		at--
	}
	m.list = slices.Insert(m.list, at, e)
	return api.OK
}

// in tells whether a label is one that the mask names.
func in(label, mask int) bool {
	bits := []int{1, 2, 4, 8, 16, 32, 64, 128}
	return mask&bits[label-1] != 0
}

// step tells whether an edge of the mask goes from one node to the other.
func (m *model) step(from, to, mask int) bool {
	for _, e := range m.list {
		if e.From == from && e.To == to && in(e.Label, mask) {
			return true
		}
	}
	return false
}

// closure tells for each two nodes whether there is a way, by taking one node
// more at a time to go over.
func (m *model) closure(mask int) [][]bool {
	way := make([][]bool, m.n)
	for from := range m.n {
		way[from] = make([]bool, m.n)
		for to := range m.n {
			way[from][to] = m.step(from, to, mask)
		}
	}
	for over := range m.n {
		for from := range m.n {
			for to := range m.n {
				way[from][to] = way[from][to] || way[from][over] && way[over][to]
			}
		}
	}
	return way
}

// path keeps, length by length, the first way to every node.
func (m *model) path(from, to, mask int) []int {
	if from < 0 || from >= m.n || to < 0 || to >= m.n {
		return nil
	}
	ways := make([][]int, m.n)
	ways[from] = []int{from}
	for range m.n {
		longer := make([][]int, m.n)
		for node := range m.n {
			for _, way := range ways {
				if way == nil || !m.step(way[len(way)-1], node, mask) {
					continue
				}
				next := append(slices.Clone(way), node)
				if longer[node] == nil || slices.Compare(next, longer[node]) < 0 {
					longer[node] = next
				}
			}
		}
		ways = longer
		if ways[to] != nil {
			return ways[to]
		}
	}
	return nil
}

func (m *model) components(mask int) [][]int {
	way := m.closure(mask)
	var groups [][]int
nodes:
	for node := range m.n {
		for i, group := range groups {
			if way[group[0]][node] && way[node][group[0]] {
				groups[i] = append(group, node)
				continue nodes
			}
		}
		groups = append(groups, []int{node})
	}
	return groups
}

func (m *model) order(mask int) ([]int, bool) {
	var order []int
	for len(order) < m.n {
		at := len(order)
		for node := 0; node < m.n && at == len(order); node++ {
			can := !slices.Contains(order, node)
			for other := range m.n {
				can = can && (slices.Contains(order, other) || !m.step(other, node, mask))
			}
			if can {
				order = append(order, node)
			}
		}
		if at == len(order) {
			return nil, false
		}
	}
	return order, true
}

func (m *model) once(mask, label int) (graph.Edge, bool) {
	way := m.closure(mask)
	for _, e := range m.list {
		if e.Label == label && (e.To == e.From || way[e.To][e.From]) {
			return e, true
		}
	}
	return graph.Edge{}, false
}

// both adds edges, some of them wrong, to a graph and its model, and counts
// the answers.
func (d *dice) both(t *testing.T, counts map[api.Errno]int) (*graph.Graph, *model) {
	n := d.below(9)
	g, m := made(t, n), &model{n: n}
	// few edges of few labels leave orders, many close cycles
	labels := 1 + d.below(1+d.below(8))
	for range d.below(3*n + 2) {
		e := edge(d.below(max(n, 1)), d.below(max(n, 1)), 1+d.below(labels))
		switch d.below(12) {
		case 0:
			e.From += d.below(3) - 1
			e.To += d.below(3) - 1
		case 1:
			e.Label = d.below(11) - 1
		}
		want := m.add(e)
		added(t, g, e, want)
		counts[want]++
	}
	return g, m
}

// mask is one of few labels or of many, at times with bits beyond them.
func (d *dice) mask() int {
	mask := d.below(256)
	if d.below(2) == 0 {
		mask &= 7
	}
	if d.below(4) == 0 {
		mask |= -256
	}
	return mask
}

// P19.1 and P19.2: edges, ways and best ways are those of the model.
func TestModelWays(t *testing.T) {
	d := dice(19)
	counts, lengths := map[api.Errno]int{}, map[int]int{}
	for range 1000 {
		g, m := d.both(t, counts)
		edges(t, g, m.list...)
		mask := d.mask()
		way := m.closure(mask)
		for from := -1; from <= m.n; from++ {
			for to := -1; to <= m.n; to++ {
				right := from >= 0 && from < m.n && to >= 0 && to < m.n
				reach(t, g, from, to, mask, right && way[from][to])
				best := m.path(from, to, mask)
				path(t, g, from, to, mask, best...)
				lengths[len(best)]++
			}
		}
	}
	for _, e := range []api.Errno{api.OK, api.ErrNode, api.ErrLabel, api.ErrEdge} {
		if counts[e] < 100 {
			t.Errorf("%d times %d", counts[e], e)
		}
	}
	for length := 2; length <= 5; length++ {
		if lengths[length] < 100 {
			t.Errorf("%d ways of %d nodes", lengths[length], length)
		}
	}
}

// P19.3 to P19.5: components, orders and closing edges are those of the model.
func TestModelCycles(t *testing.T) {
	d := dice(20)
	seen := map[string]int{}
	for range 2000 {
		g, m := d.both(t, map[api.Errno]int{})
		mask, label := d.mask(), d.below(10)
		groups := m.components(mask)
		components(t, g, mask, groups...)
		for _, group := range groups {
			if len(group) > 2 && group[len(group)-1]-group[0] >= len(group) {
				seen["group with gaps"]++
			}
		}
		if order, ok := m.order(mask); ok {
			ordered(t, g, mask, order...)
			seen["order"]++
			if !slices.IsSorted(order) {
				seen["order that isn't rising"]++
			}
		} else {
			disordered(t, g, mask)
			seen["no order"]++
		}
		if e, ok := m.once(mask, label); ok {
			once(t, g, mask, label, e)
			seen["closed"]++
		} else {
			never(t, g, mask, label)
			seen["not closed"]++
		}
	}
	for _, what := range []string{"group with gaps", "order", "order that isn't rising", "no order", "closed", "not closed"} {
		if seen[what] < 100 {
			t.Errorf("%s: %d times", what, seen[what])
		}
	}
}

// P19.2 to P19.5: what the answers say of each other, in graphs of several
// words of nodes.
func TestModelWide(t *testing.T) {
	d := dice(21)
	for range 40 {
		n := 100 + d.below(100)
		g := made(t, n)
		for range n + d.below(n) {
			g.Add(edge(d.below(n), d.below(n), 1+d.below(3)))
		}
		for _, mask := range []int{1, 3, 7} {
			cycle := false
			together := make([]int, n)
			for i, group := range g.Components(mask) {
				for _, node := range group {
					together[node] = i
					cycle = cycle || g.Reach(node, node, mask)
				}
			}
			if _, ok := g.Order(mask); ok == cycle {
				t.Errorf("an order: %v, a cycle: %v", ok, cycle)
			}
			for range 30 {
				a, b := d.below(n), d.below(n)
				if both := a == b || g.Reach(a, b, mask) && g.Reach(b, a, mask); both != (together[a] == together[b]) {
					t.Errorf("%d and %d: %v", a, b, both)
				}
				if way := g.Path(a, b, mask); (len(way) > 0) != g.Reach(a, b, mask) {
					t.Errorf("from %d to %d: %v", a, b, way)
				}
			}
		}
	}
}
