package graph

import (
	"testing"

	"proctor/api"
)

// A graph keeps its edges and nothing that was asked of it or refused.
func TestKept(t *testing.T) {
	g, _ := New(3)
	for _, e := range []Edge{{0, 1, 1}, {0, 1, 1}, {3, 0, 1}, {0, 2, 9}, {1, 0, 2}} {
		g.Add(e)
	}
	for range 3 {
		g.Reach(0, 1, 3)
		g.Path(0, 0, 3)
		g.Components(3)
		g.Order(3)
		g.Once(1, 2)
		g.Edges()
	}
	if g.nodes != 3 || len(g.edges) != 2 {
		t.Errorf("kept: %+v", *g)
	}
}

// A search goes over a node once, however many ways lead to it.
func TestSearchOnce(t *testing.T) {
	g, _ := New(8)
	for from := range 8 {
		for to := range 8 {
			if e := g.Add(Edge{from, to, 1}); e != api.OK {
				t.Fatal(e)
			}
		}
	}
	for node, from := range g.behind(1).search(5) {
		if from != 5 {
			t.Errorf("%d is first come to from %d", node, from)
		}
	}
}
