package adya

import (
	"cmp"
	"slices"
	"sort"

	"proctor/api"
	"proctor/fan"
	"proctor/record"
)

// workers is how many goroutines go through a log's transactions.
const workers = 4

// none stands for the writer of the first state, and of the version behind a
// key's last.
const none = -1

// history is a log, seen by its committed and sound transactions.
type history struct {
	log      []api.Txn
	places   []int                // of the history's transactions, rising
	versions map[string][]version // of each key, in their order
	reads    []read               // the external ones
}

// version is what a transaction left at a key.
type version struct {
	writer int
	left   api.Op
}

// read is an external read, with the version that it is bound to and the next
// one behind that.
type read struct {
	reader      int
	op          api.Op
	bound, next version
}

func newHistory(log []api.Txn) (*history, api.Errno) {
	if len(log) > api.MaxHistory {
		return nil, api.ErrLarge
	}
	if _, _, e := fan.Each(nil, log, workers, check); e != api.OK {
		return nil, e
	}
	h := &history{log: log, versions: map[string][]version{}}
	for place, t := range log {
		if t.Status == api.Committed && t.Start < t.End {
			h.places = append(h.places, place)
		}
	}
	h.takeVersions()
	reads, _, e := fan.Each(nil, h.places, workers, h.readsOf)
	h.reads = slices.Concat(reads...)
	return h, e
}

func check(t api.Txn) (struct{}, api.Errno) { return struct{}{}, record.Valid(t) }

// takeVersions goes along the ends, so that each key gets its versions in their
// order.
func (h *history) takeVersions() {
	byEnd := slices.Clone(h.places)
	slices.SortStableFunc(byEnd, func(a, b int) int { return cmp.Compare(h.log[a].End, h.log[b].End) })
	for _, place := range byEnd {
		ops := h.log[place].Ops
		for i, op := range ops {
			if op.Kind != api.OpRead && !written(ops[i+1:], op.Key) {
				h.versions[op.Key] = append(h.versions[op.Key], version{writer: place, left: op})
			}
		}
	}
}

// written tells whether one of the operations writes or deletes the key.
func written(ops []api.Op, key string) bool {
	return slices.ContainsFunc(ops, func(op api.Op) bool { return op.Kind != api.OpRead && op.Key == key })
}

func (h *history) readsOf(place int) ([]read, api.Errno) {
	var reads []read
	ops := h.log[place].Ops
	for i, op := range ops {
		if op.Kind == api.OpRead && !written(ops[:i], op.Key) {
			reads = append(reads, h.bind(place, op))
		}
	}
	return reads, api.OK
}

func (h *history) bind(reader int, op api.Op) read {
	r := read{reader: reader, op: op, bound: version{writer: none}, next: version{writer: none}}
	chain := h.versions[op.Key]
	seen := sort.Search(len(chain), func(i int) bool { return !h.ahead(chain[i].writer, reader) })
	if seen > 0 {
		r.bound = chain[seen-1]
	}
	if seen < len(chain) {
		r.next = chain[seen]
	}
	return r
}

// ahead tells whether u has ended by the time that t starts at.
func (h *history) ahead(u int, t int) bool { return h.log[u].End <= h.log[t].Start }

func (h *history) outside(place int) bool {
	_, ok := slices.BinarySearch(h.places, place)
	return !ok
}
