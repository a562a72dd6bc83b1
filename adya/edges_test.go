package adya

import (
	"strconv"
	"testing"

	"proctor/api"
)

// The graph of the greatest history refuses no edge but those that it has: each
// transaction is ahead of all behind it, and each of its operations depends on
// others as often as it can.
func TestEdges(t *testing.T) {
	var list []api.Txn
	for i := range api.MaxHistory {
		txn := api.Txn{Start: 3 * i, End: 3*i + 3, Status: api.Committed}
		for k := range api.MaxOps {
			op := api.Op{Kind: api.OpRead, Key: strconv.Itoa(k), Found: i > k, Value: "v"}
			if (i+k)%2 == 0 {
				op.Kind, op.Found = api.OpWrite, true
			}
			if !op.Found {
				op.Value = ""
			}
			txn.Ops = append(txn.Ops, op)
		}
		list = append(list, txn)
	}
	h, e := newHistory(list)
	if e != api.OK {
		t.Fatal(e)
	}
	g := h.graph(h.deps())
	h.addAhead(g)
	count := map[int]int{}
	for _, edge := range g.Edges() {
		count[edge.Label]++
	}
	n := api.MaxHistory
	if count[ahead] != n*(n-1)/2 || count[DepWW] != n-2 || count[DepWR] != n-1 || count[DepRW] != n-1 {
		t.Errorf("edges by label: %v", count)
	}
}

// Keys over which two transactions depend alike make one edge.
func TestOneEdge(t *testing.T) {
	write := func(key string) api.Op { return api.Op{Kind: api.OpWrite, Key: key, Found: true} }
	h, _ := newHistory([]api.Txn{
		{Start: 0, End: 1, Status: api.Committed, Ops: []api.Op{write("a"), write("b")}},
		{Start: 1, End: 2, Status: api.Committed, Ops: []api.Op{write("b"), write("a")}},
	})
	deps := h.deps()
	if edges := h.graph(deps).Edges(); len(deps) != 2 || len(edges) != 1 {
		t.Errorf("%v, %v", deps, edges)
	}
}
