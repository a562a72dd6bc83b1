package graph

import "math/bits"

// none stands where there is no node.
const none = -1

// set is a set of nodes, a bit a node.
type set []uint64

// wordsFor tells how many words have a bit for each of n nodes.
func wordsFor(n int) int { return (n + 63) / 64 }

func newSet(n int) set { return make(set, wordsFor(n)) }

func (s set) put(node int) { s[node/64] |= 1 << (node % 64) }

func (s set) has(node int) bool { return s[node/64]>>(node%64)&1 == 1 }

// table holds for each node the set of its neighbours in one direction. It is
// made anew for each question, so that a graph keeps its edges once alone.
type table struct {
	nodes int
	words set
}

func newTable(n int) table { return table{n, make(set, n*wordsFor(n))} }

func (t table) row(node int) set {
	width := wordsFor(t.nodes)
	return t.words[node*width : (node+1)*width]
}

// behind makes the table of the nodes to which each has an edge of the mask.
func (g *Graph) behind(mask int) table {
	t := newTable(g.nodes)
	for e := range g.edges {
		if e.over(mask) {
			t.row(e.From).put(e.To)
		}
	}
	return t
}

// ahead makes the table of the nodes that have an edge of the mask to each.
func (g *Graph) ahead(mask int) table {
	t := newTable(g.nodes)
	for e := range g.edges {
		if e.over(mask) {
			t.row(e.To).put(e.From)
		}
	}
	return t
}

// search tells for each node from which one it is first come to, or none. It
// goes by length, and within a length by the order of the ways: so the first
// to come to a node stands on the best way to it. The start counts as come to
// only over a cycle.
func (t table) search(from int) []int {
	came := make([]int, t.nodes)
	for node := range came {
		came[node] = none
	}
	seen := newSet(t.nodes)
	queue := []int{from}
	for at := 0; at < len(queue); at++ {
		for i, word := range t.row(queue[at]) {
			for fresh := word &^ seen[i]; fresh != 0; fresh &= fresh - 1 {
				next := i*64 + bits.TrailingZeros64(fresh)
				came[next] = queue[at]
				queue = append(queue, next)
			}
			seen[i] |= word
		}
	}
	return came
}

// free finds the smallest node that doesn't stand yet and whose neighbours all
// stand.
func (t table) free(standing set) (int, bool) {
nodes:
	for node := range t.nodes {
		if standing.has(node) {
			continue
		}
		for i, word := range t.row(node) {
			if word&^standing[i] != 0 {
				continue nodes
			}
		}
		return node, true
	}
	return 0, false
}
