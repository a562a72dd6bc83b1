package graph_test

import (
	"math"
	"slices"
	"testing"

	"proctor/api"
	"proctor/graph"
)

// all is a mask of every label.
const all = 1<<api.MaxLabel - 1

// made gives a graph with these edges.
func made(t *testing.T, n int, edges ...graph.Edge) *graph.Graph {
	t.Helper()
	g, e := graph.New(n)
	if e != api.OK || g == nil {
		t.Fatalf("New(%d) = %v, %d", n, g, e)
	}
	for _, e := range edges {
		added(t, g, e, api.OK)
	}
	return g
}

// edge is short for an edge.
func edge(from, to, label int) graph.Edge {
	return graph.Edge{From: from, To: to, Label: label}
}

func added(t *testing.T, g *graph.Graph, x graph.Edge, want api.Errno) {
	t.Helper()
	if e := g.Add(x); e != want {
		t.Errorf("Add(%v) = %d; want %d", x, e, want)
	}
}

func edges(t *testing.T, g *graph.Graph, want ...graph.Edge) {
	t.Helper()
	if got := g.Edges(); !slices.Equal(got, want) {
		t.Errorf("Edges() = %v; want %v", got, want)
	}
}

func reach(t *testing.T, g *graph.Graph, from, to, mask int, want bool) {
	t.Helper()
	if got := g.Reach(from, to, mask); got != want {
		t.Errorf("Reach(%d, %d, %d) = %v", from, to, mask, got)
	}
}

func path(t *testing.T, g *graph.Graph, from, to, mask int, want ...int) {
	t.Helper()
	if got := g.Path(from, to, mask); !slices.Equal(got, want) {
		t.Errorf("Path(%d, %d, %d) = %v; want %v", from, to, mask, got, want)
	}
}

func components(t *testing.T, g *graph.Graph, mask int, want ...[]int) {
	t.Helper()
	if got := g.Components(mask); !slices.EqualFunc(got, want, slices.Equal) {
		t.Errorf("Components(%d) = %v; want %v", mask, got, want)
	}
}

func ordered(t *testing.T, g *graph.Graph, mask int, want ...int) {
	t.Helper()
	if got, ok := g.Order(mask); !ok || !slices.Equal(got, want) {
		t.Errorf("Order(%d) = %v, %v; want %v", mask, got, ok, want)
	}
}

func disordered(t *testing.T, g *graph.Graph, mask int) {
	t.Helper()
	if got, ok := g.Order(mask); ok || len(got) != 0 {
		t.Errorf("Order(%d) = %v, %v", mask, got, ok)
	}
}

func once(t *testing.T, g *graph.Graph, mask, label int, want graph.Edge) {
	t.Helper()
	if got, ok := g.Once(mask, label); !ok || got != want {
		t.Errorf("Once(%d, %d) = %v, %v; want %v", mask, label, got, ok, want)
	}
}

func never(t *testing.T, g *graph.Graph, mask, label int) {
	t.Helper()
	if got, ok := g.Once(mask, label); ok || got != (graph.Edge{}) {
		t.Errorf("Once(%d, %d) = %v, %v", mask, label, got, ok)
	}
}

// example is the chapter's graph.
func example(t *testing.T) *graph.Graph {
	t.Helper()
	return made(t, 4, edge(0, 1, 1), edge(1, 2, 1), edge(2, 0, 2), edge(2, 3, 1))
}

// ring is a cycle over all n nodes, of label 1.
func ring(t *testing.T, n int) *graph.Graph {
	t.Helper()
	g := made(t, n)
	for node := range n {
		added(t, g, edge(node, (node+1)%n, 1), api.OK)
	}
	return g
}

// The chapter's first example.
func TestExampleWays(t *testing.T) {
	g := example(t)
	reach(t, g, 0, 3, 1, true)
	reach(t, g, 2, 1, 1, false)
	reach(t, g, 2, 1, 3, true)
	reach(t, g, 0, 0, 3, true)
	path(t, g, 2, 1, 3, 2, 0, 1)
}

// The chapter's second example.
func TestExampleCycles(t *testing.T) {
	g := example(t)
	components(t, g, 3, []int{0, 1, 2}, []int{3})
	components(t, g, 1, []int{0}, []int{1}, []int{2}, []int{3})
	ordered(t, g, 1, 0, 1, 2, 3)
	disordered(t, g, 3)
	once(t, g, 1, 2, edge(2, 0, 2))
}

// P19.1: the bounds of the number of nodes.
func TestNew(t *testing.T) {
	for _, n := range []int{0, 1, api.MaxNodes} {
		if g, e := graph.New(n); g == nil || e != api.OK {
			t.Errorf("New(%d) = %v, %d", n, g, e)
		}
	}
	for _, n := range []int{-1, math.MinInt, api.MaxNodes + 1, math.MaxInt} {
		if g, e := graph.New(n); g != nil || e != api.ErrNodes {
			t.Errorf("New(%d) = %v, %d", n, g, e)
		}
	}
}

// P19.1: what is no edge of the graph is refused, and changes nothing.
func TestAddRefused(t *testing.T) {
	g := made(t, 3, edge(0, 2, 1))
	for _, node := range []int{-1, math.MinInt, 3, math.MaxInt} {
		added(t, g, edge(node, 0, 1), api.ErrNode)
		added(t, g, edge(0, node, 1), api.ErrNode)
	}
	for _, label := range []int{0, -1, math.MinInt, api.MaxLabel + 1, math.MaxInt} {
		added(t, g, edge(0, 1, label), api.ErrLabel)
	}
	added(t, g, edge(0, 2, 1), api.ErrEdge)
	edges(t, g, edge(0, 2, 1))
	added(t, made(t, 0), edge(0, 0, 1), api.ErrNode)
}

// P19.1: edges that differ in one thing alone are different ones, and one may
// go from a node to itself.
func TestAddAlike(t *testing.T) {
	g := made(t, 2, edge(1, 0, 1), edge(0, 0, 8), edge(0, 1, 8), edge(0, 1, 1), edge(1, 1, 1))
	edges(t, g, edge(0, 0, 8), edge(0, 1, 1), edge(0, 1, 8), edge(1, 0, 1), edge(1, 1, 1))
}

// P19.1: an edge's faults are told in the chapter's order.
func TestAddOrderOfErrors(t *testing.T) {
	g := made(t, 1)
	added(t, g, edge(1, 0, 9), api.ErrNode)
	added(t, g, edge(0, 1, 0), api.ErrNode)
	g = full(t)
	added(t, g, edge(api.MaxNodes, 0, 0), api.ErrNode)
	added(t, g, edge(0, 0, 0), api.ErrLabel)
	added(t, g, edge(0, 0, 1), api.ErrEdge)
	added(t, g, edge(api.MaxNodes-1, 0, 1), api.ErrEdges)
}

// full is a graph with as many nodes and edges as may be: from each of its
// first 128 nodes to each of its first 512.
func full(t *testing.T) *graph.Graph {
	t.Helper()
	g := made(t, api.MaxNodes)
	for i := range api.MaxEdges {
		added(t, g, edge(i%128, i/128, 1), api.OK)
	}
	return g
}

// P19.1: the greatest number of edges, and the first one past it.
func TestFull(t *testing.T) {
	g := full(t)
	added(t, g, edge(0, 0, 2), api.ErrEdges)
	list := g.Edges()
	if len(list) != api.MaxEdges {
		t.Fatalf("%d edges", len(list))
	}
	for i, e := range list {
		if e != edge(i/512, i%512, 1) {
			t.Fatalf("edge %d is %v", i, e)
		}
	}
	reach(t, g, 127, 511, 1, true)
	reach(t, g, 127, 512, 1, false)
}

// P19.2 to P19.5: a graph without nodes.
func TestNoNodes(t *testing.T) {
	g := made(t, 0)
	edges(t, g)
	reach(t, g, 0, 0, all, false)
	path(t, g, 0, 0, all)
	components(t, g, all)
	ordered(t, g, all)
	never(t, g, all, 1)
}

// P19.2 to P19.5: a graph without edges.
func TestNoEdges(t *testing.T) {
	g := made(t, 3)
	edges(t, g)
	reach(t, g, 1, 1, all, false)
	path(t, g, 0, 1, all)
	components(t, g, all, []int{0}, []int{1}, []int{2})
	ordered(t, g, all, 0, 1, 2)
	never(t, g, all, 1)
}

// P19.2: from a node to itself there is a way only on a cycle.
func TestReachItself(t *testing.T) {
	g := made(t, 4, edge(0, 0, 1), edge(0, 1, 1), edge(1, 2, 1), edge(2, 1, 2))
	reach(t, g, 0, 0, 1, true)
	reach(t, g, 0, 0, 2, false)
	reach(t, g, 1, 1, 1, false)
	reach(t, g, 1, 1, 3, true)
	reach(t, g, 3, 3, all, false)
	path(t, g, 0, 0, 1, 0, 0)
	path(t, g, 1, 1, 3, 1, 2, 1)
	path(t, g, 2, 2, 3, 2, 1, 2)
	path(t, g, 0, 2, 3, 0, 1, 2)
	path(t, g, 3, 3, all)
}

// P19.2: nothing is reached from or at what is no node.
func TestReachNoNode(t *testing.T) {
	g := ring(t, 3)
	for _, node := range []int{-1, math.MinInt, 3, 64, math.MaxInt} {
		reach(t, g, node, 0, all, false)
		reach(t, g, 0, node, all, false)
		reach(t, g, node, node, all, false)
		path(t, g, node, 0, all)
		path(t, g, 0, node, all)
		path(t, g, node, node, all)
	}
}

// P19.2: an edge is gone over in its own direction alone.
func TestReachDirection(t *testing.T) {
	g := made(t, 3, edge(0, 1, 1), edge(2, 1, 1))
	reach(t, g, 0, 1, 1, true)
	reach(t, g, 1, 0, 1, false)
	reach(t, g, 0, 2, 1, false)
}

// P19.2: a shorter way comes ahead of one whose nodes come first.
func TestPathShortest(t *testing.T) {
	g := made(t, 5, edge(0, 1, 1), edge(1, 2, 1), edge(2, 4, 1), edge(0, 3, 1), edge(3, 4, 1))
	path(t, g, 0, 4, 1, 0, 3, 4)
	added(t, g, edge(0, 4, 2), api.OK)
	path(t, g, 0, 4, 1, 0, 3, 4)
	path(t, g, 0, 4, 3, 0, 4)
}

// P19.2: of shortest ways the one comes first that is smaller at the first
// node where they differ, whatever stands behind it.
func TestPathFirst(t *testing.T) {
	g := made(t, 7, edge(0, 2, 1), edge(0, 1, 1), edge(1, 5, 1), edge(2, 3, 1), edge(3, 6, 1), edge(5, 6, 1))
	path(t, g, 0, 6, 1, 0, 1, 5, 6)
	added(t, g, edge(1, 4, 1), api.OK)
	added(t, g, edge(4, 6, 1), api.OK)
	path(t, g, 0, 6, 1, 0, 1, 4, 6)
	added(t, g, edge(6, 0, 1), api.OK)
	path(t, g, 0, 0, 1, 0, 1, 4, 6, 0)
	path(t, g, 6, 6, 1, 6, 0, 1, 4, 6)
}

// P19.2: edges of several labels between two nodes are one step.
func TestPathLabels(t *testing.T) {
	g := made(t, 3, edge(0, 1, 1), edge(0, 1, 8), edge(1, 2, 8))
	path(t, g, 0, 2, all, 0, 1, 2)
	path(t, g, 0, 2, 128, 0, 1, 2)
	path(t, g, 0, 2, 1)
}

// A mask's bit names one label, and other bits are not looked at.
func TestMask(t *testing.T) {
	for label := 1; label <= api.MaxLabel; label++ {
		g := made(t, 2, edge(0, 1, label), edge(1, 0, label))
		bit := 1 << (label - 1)
		for _, mask := range []int{bit, all, -1, math.MaxInt, bit | 256, bit | math.MinInt} {
			reach(t, g, 0, 1, mask, true)
			path(t, g, 0, 0, mask, 0, 1, 0)
			components(t, g, mask, []int{0, 1})
			disordered(t, g, mask)
			once(t, g, mask, label, edge(0, 1, label))
		}
		for _, mask := range []int{0, all &^ bit, ^bit, 256, math.MinInt, math.MaxInt &^ bit} {
			reach(t, g, 0, 1, mask, false)
			path(t, g, 0, 0, mask)
			components(t, g, mask, []int{0}, []int{1})
			ordered(t, g, mask, 0, 1)
			never(t, g, mask, label)
		}
	}
}

// P19.3: groups that lie within one another's numbers, and are reached from
// one another one way round.
func TestComponents(t *testing.T) {
	g := made(t, 6, edge(4, 0, 1), edge(0, 4, 1), edge(5, 1, 1), edge(1, 3, 1), edge(3, 5, 1), edge(0, 1, 1), edge(2, 2, 1))
	components(t, g, 1, []int{0, 4}, []int{1, 3, 5}, []int{2})
	added(t, g, edge(5, 2, 2), api.OK)
	added(t, g, edge(2, 4, 2), api.OK)
	components(t, g, 1, []int{0, 4}, []int{1, 3, 5}, []int{2})
	components(t, g, 2, []int{0}, []int{1}, []int{2}, []int{3}, []int{4}, []int{5})
	components(t, g, 3, []int{0, 1, 2, 3, 4, 5})
}

// P19.4: at each place stands the smallest node that can.
func TestOrder(t *testing.T) {
	g := made(t, 5, edge(4, 0, 1), edge(2, 1, 1), edge(3, 2, 2))
	ordered(t, g, 0, 0, 1, 2, 3, 4)
	ordered(t, g, 1, 2, 1, 3, 4, 0)
	ordered(t, g, 2, 0, 1, 3, 2, 4)
	ordered(t, g, 3, 3, 2, 1, 4, 0)
	added(t, g, edge(1, 3, 3), api.OK)
	ordered(t, g, 3, 3, 2, 1, 4, 0)
	disordered(t, g, 7)
}

// P19.4: an edge from a node to itself leaves no order.
func TestOrderItself(t *testing.T) {
	g := made(t, 3, edge(1, 1, 2))
	ordered(t, g, 1, 0, 1, 2)
	disordered(t, g, 2)
	disordered(t, g, 3)
}

// P19.5: the first edge, in their order, that closes a cycle; its own label
// need not be in the mask, and its other edges are all of the mask.
func TestOnce(t *testing.T) {
	g := made(t, 5, edge(3, 0, 3), edge(0, 1, 1), edge(1, 3, 1), edge(3, 1, 3), edge(0, 4, 3), edge(1, 4, 3))
	once(t, g, 1, 3, edge(3, 0, 3))
	never(t, g, 1, 1)
	once(t, g, 4, 1, edge(1, 3, 1))
	once(t, g, 5, 1, edge(0, 1, 1))
	once(t, g, 5, 3, edge(3, 0, 3))
	added(t, g, edge(4, 0, 2), api.OK)
	once(t, g, 3, 3, edge(0, 4, 3))
	once(t, g, 7, 3, edge(0, 4, 3))
	once(t, g, 2, 3, edge(0, 4, 3))
}

// P19.5: two edges of the label do not close a cycle with each other, unless
// the label is in the mask.
func TestOnceAlone(t *testing.T) {
	g := made(t, 2, edge(0, 1, 3), edge(1, 0, 3))
	never(t, g, 3, 3)
	once(t, g, 4, 3, edge(0, 1, 3))
}

// P19.5: an edge from a node to itself closes a cycle over any mask.
func TestOnceItself(t *testing.T) {
	g := made(t, 3, edge(2, 2, 5), edge(1, 1, 5), edge(0, 1, 5), edge(0, 0, 4))
	for _, mask := range []int{0, 1, all, -1, math.MinInt} {
		once(t, g, mask, 5, edge(1, 1, 5))
	}
}

// P19.5: a label that is none has no edges.
func TestOnceNoLabel(t *testing.T) {
	g := ring(t, 3)
	for _, label := range []int{0, -1, math.MinInt, 2, 9, 64, 65, math.MaxInt} {
		never(t, g, -1, label)
	}
}

// P19.2 to P19.5: the greatest cycle, and the same with one edge missing.
func TestLong(t *testing.T) {
	n := api.MaxNodes
	var rising []int
	for node := range n {
		rising = append(rising, node)
	}
	g := ring(t, n)
	path(t, g, 0, 0, 1, append(slices.Clone(rising), 0)...)
	path(t, g, 0, n-1, 1, rising...)
	path(t, g, n-1, 0, 1, n-1, 0)
	components(t, g, 1, rising)
	disordered(t, g, 1)
	once(t, g, 1, 1, edge(0, 1, 1))

	// falling, so that the smallest node that can stand is the last one asked
	g = made(t, n)
	for node := 1; node < n; node++ {
		added(t, g, edge(node, node-1, 2), api.OK)
	}
	falling := slices.Clone(rising)
	slices.Reverse(falling)
	ordered(t, g, 2, falling...)
	path(t, g, n-1, 0, 2, falling...)
	never(t, g, 2, 2)
	if groups := g.Components(2); len(groups) != n || !slices.Equal(groups[n-1], []int{n - 1}) {
		t.Errorf("Components: %d groups", len(groups))
	}
}

// P1: a dense graph without a cycle is gone through in good time.
func TestDense(t *testing.T) {
	g := made(t, api.MaxNodes)
	for i := range api.MaxEdges {
		from, step := i%960, 1+i/960
		if from+step < api.MaxNodes {
			added(t, g, edge(from, from+step, 1), api.OK)
		}
	}
	never(t, g, 1, 1)
	if groups := g.Components(1); len(groups) != api.MaxNodes {
		t.Errorf("Components: %d groups", len(groups))
	}
	if order, ok := g.Order(1); !ok || !slices.IsSorted(order) {
		t.Errorf("Order = %v, %v", order, ok)
	}
}

// The nodes at the ends of the words in which sets of nodes are held.
func TestWords(t *testing.T) {
	for _, n := range []int{63, 64, 65, 127, 128, 129} {
		g := ring(t, n)
		reach(t, g, n-1, n-2, 1, true)
		path(t, g, n-1, 1, 1, n-1, 0, 1)
		if groups := g.Components(1); len(groups) != 1 || len(groups[0]) != n {
			t.Errorf("%d nodes: Components = %v", n, groups)
		}
		never(t, g, 2, 1)
	}
}

// What is asked changes nothing, and the order in which edges came neither.
func TestOrderOfAdding(t *testing.T) {
	list := []graph.Edge{edge(0, 1, 1), edge(0, 2, 1), edge(1, 3, 1), edge(2, 3, 1), edge(3, 0, 2)}
	for turn := range list {
		g := made(t, 4, slices.Concat(list[turn:], list[:turn])...)
		for range 2 {
			edges(t, g, list...)
			path(t, g, 0, 3, 1, 0, 1, 3)
			components(t, g, 3, []int{0, 1, 2, 3})
			ordered(t, g, 1, 0, 1, 2, 3)
			disordered(t, g, 3)
			once(t, g, 1, 2, edge(3, 0, 2))
		}
	}
}

// Two graphs share nothing.
func TestTwoGraphs(t *testing.T) {
	a, b := made(t, 2), made(t, 2)
	added(t, a, edge(0, 1, 1), api.OK)
	edges(t, b)
	reach(t, b, 0, 1, 1, false)
	added(t, b, edge(0, 1, 1), api.OK)
}

// spoil overwrites a list, its spare room too.
func spoil(list []int) {
	for i := range list[:cap(list)] {
		list[:cap(list)][i] = -7
	}
}

// An answer is new memory, spare room too: what is done to it is seen nowhere
// else.
func TestOwnMemory(t *testing.T) {
	g := example(t)
	list, way := g.Edges(), g.Path(2, 1, 3)
	order, _ := g.Order(1)
	for i := range list[:cap(list)] {
		list[:cap(list)][i] = edge(9, 9, 9)
	}
	spoil(way)
	spoil(order)
	groups := g.Components(3)
	spoil(groups[0])
	if !slices.Equal(groups[1], []int{3}) {
		t.Errorf("the second group is %v", groups[1])
	}
	spoil(groups[1])
	edges(t, g, edge(0, 1, 1), edge(1, 2, 1), edge(2, 0, 2), edge(2, 3, 1))
	path(t, g, 2, 1, 3, 2, 0, 1)
	ordered(t, g, 1, 0, 1, 2, 3)
	components(t, g, 3, []int{0, 1, 2}, []int{3})
}
