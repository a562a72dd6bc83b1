package adya

import (
	"slices"

	"proctor/api"
)

// occurring tells of each phenomenon whether it occurs.
func (h *history) occurring() [PhGSIb + 1]bool {
	deps := h.deps()
	g := h.graph(deps)
	h.addAhead(g)
	misreads := h.misreads()
	_, ordered := g.Order(mask(DepWW, DepWR))
	_, closed := g.Once(mask(DepWW, DepWR, ahead), DepRW)
	return [...]bool{
		PhMisread: len(misreads) > 0,
		PhG1a:     h.abortedWrites().toldBy(misreads),
		PhG1b:     h.earlierWrites().toldBy(misreads),
		PhG1c:     !ordered,
		PhGSIa:    slices.ContainsFunc(deps, h.overlaps),
		PhGSIb:    closed,
	}
}

// misreads gives the external reads that don't tell what they are bound to. The
// first state's version has nothing left, as a delete's.
func (h *history) misreads() []read {
	var misreads []read
	for _, r := range h.reads {
		if r.op.Found != r.bound.left.Found || r.op.Value != r.bound.left.Value {
			misreads = append(misreads, r)
		}
	}
	return misreads
}

// overlaps tells whether a transaction depends on what another wrote that is not
// ahead of it.
func (h *history) overlaps(d Dep) bool { return d.Kind != DepRW && !h.ahead(d.From, d.To) }

// cell is a value at a key.
type cell struct {
	key, value string
}

// writers is the places of those who wrote a value at a key that no reader
// should see.
type writers map[cell][]int

func (w writers) put(op api.Op, place int) {
	c := cell{key: op.Key, value: op.Value}
	w[c] = append(w[c], place)
}

func (h *history) abortedWrites() writers {
	w := writers{}
	for place, t := range h.log {
		if t.Status != api.Aborted {
			continue
		}
		for _, op := range t.Ops {
			if op.Kind == api.OpWrite {
				w.put(op, place)
			}
		}
	}
	return w
}

// earlierWrites gives the writes of the history behind which their transactions
// write or delete the key again.
func (h *history) earlierWrites() writers {
	w := writers{}
	for _, place := range h.places {
		ops := h.log[place].Ops
		for i, op := range ops {
			if op.Kind == api.OpWrite && written(ops[i+1:], op.Key) {
				w.put(op, place)
			}
		}
	}
	return w
}

// toldBy tells whether one of the reads found what another transaction than its
// own wrote.
func (w writers) toldBy(reads []read) bool {
	return slices.ContainsFunc(reads, func(r read) bool {
		others := w[cell{key: r.op.Key, value: r.op.Value}]
		return r.op.Found && slices.ContainsFunc(others, func(place int) bool { return place != r.reader })
	})
}
