package adya

import (
	"cmp"
	"slices"
	"strings"

	"proctor/graph"
)

// deps gives all dependencies of the history, in their order.
func (h *history) deps() []Dep {
	var deps []Dep
	for key, chain := range h.versions {
		for i := 1; i < len(chain); i++ {
			deps = append(deps, Dep{Kind: DepWW, From: chain[i-1].writer, To: chain[i].writer, Key: key})
		}
	}
	for _, r := range h.reads {
		if r.bound.writer != none {
			deps = append(deps, Dep{Kind: DepWR, From: r.bound.writer, To: r.reader, Key: r.op.Key})
		}
		if r.next.writer != none && r.next.writer != r.reader {
			deps = append(deps, Dep{Kind: DepRW, From: r.reader, To: r.next.writer, Key: r.op.Key})
		}
	}
	slices.SortFunc(deps, compareDeps)
	// a transaction may read a key more than once
	return slices.Compact(deps)
}

func compareDeps(a, b Dep) int {
	return cmp.Or(cmp.Compare(a.From, b.From), cmp.Compare(a.To, b.To),
		cmp.Compare(a.Kind, b.Kind), strings.Compare(a.Key, b.Key))
}

// graph has the log's places as its nodes. Where two transactions depend over
// several keys it refuses all edges of a kind but the first, which is enough.
func (h *history) graph(deps []Dep) *graph.Graph {
	g, _ := graph.New(len(h.log))
	for _, d := range deps {
		g.Add(graph.Edge{From: d.From, To: d.To, Label: d.Kind})
	}
	return g
}

// addAhead puts the edges of 'ahead' in. With them a graph of MaxHistory nodes
// is still below MaxEdges: of two transactions one at most is ahead, and an
// operation makes two dependencies at most.
func (h *history) addAhead(g *graph.Graph) {
	for _, u := range h.places {
		for _, t := range h.places {
			if h.ahead(u, t) {
				g.Add(graph.Edge{From: u, To: t, Label: ahead})
			}
		}
	}
}

// mask names labels of the graph's edges.
func mask(labels ...int) int {
	bits := 0
	for _, label := range labels {
		bits |= 1 << (label - 1)
	}
	return bits
}
