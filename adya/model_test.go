package adya_test

import (
	"slices"
	"testing"

	"proctor/adya"
	"proctor/api"
)

// dice is a source of numbers that is the same in every run.
type dice uint64

func (d *dice) below(n int) int {
	*d = *d*6364136223846793005 + 1442695040888963407
	return int(uint64(*d) >> 33 % uint64(n))
}

// model says the chapter's words one by one, each by going through everything.
type model []api.Txn

func (m model) member(place int) bool { return m[place].Status == 1 && m[place].Start < m[place].End }

// left is what the transaction left at the key, if it writes it.
func (m model) left(place int, key string) (api.Op, bool) {
	last, writes := api.Op{}, false
	for _, op := range m[place].Ops {
		if op.Kind != api.OpRead && op.Key == key {
			last, writes = op, true
		}
	}
	return last, writes && m.member(place)
}

// below tells whether u's version is ahead of t's.
func (m model) below(u, t int) bool {
	return m[u].End < m[t].End || m[u].End == m[t].End && u < t
}

// next tells whether t's version of the key is the next one behind u's; the
// first one, if u is -1.
func (m model) next(u, t int, key string) bool {
	if _, ok := m.left(t, key); !ok {
		return false
	}
	if u >= 0 {
		if _, ok := m.left(u, key); !ok || !m.below(u, t) {
			return false
		}
	}
	for w := range m {
		if _, ok := m.left(w, key); ok && (u < 0 || m.below(u, w)) && m.below(w, t) {
			return false
		}
	}
	return true
}

// bound is whose version an external read of t is bound to; -1 is the first state.
func (m model) bound(t int, key string) int {
	best := -1
	for w := range m {
		if _, ok := m.left(w, key); ok && m[w].End <= m[t].Start && (best < 0 || m.below(best, w)) {
			best = w
		}
	}
	return best
}

func (m model) external(place int) []api.Op {
	var list []api.Op
	if !m.member(place) {
		return nil
	}
	for i, op := range m[place].Ops {
		own := false
		for _, earlier := range m[place].Ops[:i] {
			own = own || earlier.Kind != api.OpRead && earlier.Key == op.Key
		}
		if op.Kind == api.OpRead && !own {
			list = append(list, op)
		}
	}
	return list
}

func (m model) reads(place int, key string) bool {
	return slices.ContainsFunc(m.external(place), func(op api.Op) bool { return op.Key == key })
}

func (m model) depends(kind, u, t int, key string) bool {
	if u == t || !m.member(u) || !m.member(t) {
		return false
	}
	switch kind {
	case adya.DepWW:
		return m.next(u, t, key)
	case adya.DepWR:
		return m.reads(t, key) && m.bound(t, key) == u
	}
	return m.reads(u, key) && m.next(m.bound(u, key), t, key)
}

// keys is in the order of bytes.
func keys() []string { return []string{"a", "a\x00", "b"} }

func (m model) deps() []adya.Dep {
	var list []adya.Dep
	for u := range m {
		for t := range m {
			for kind := 1; kind <= 3; kind++ {
				for _, key := range keys() {
					if m.depends(kind, u, t, key) {
						list = append(list, adya.Dep{Kind: kind, From: u, To: t, Key: key})
					}
				}
			}
		}
	}
	return list
}

// reach is who can be reached from whom over dependencies of the kinds, and over
// 'ahead' if that is asked for.
func (m model) reach(deps []adya.Dep, ahead bool, kinds ...int) [][]bool {
	table := make([][]bool, len(m))
	for u := range m {
		table[u] = make([]bool, len(m))
		for t := range m {
			table[u][t] = ahead && m.member(u) && m.member(t) && m[u].End <= m[t].Start
		}
	}
	for _, d := range deps {
		if slices.Contains(kinds, d.Kind) {
			table[d.From][d.To] = true
		}
	}
	for w := range m {
		for u := range m {
			for t := range m {
				table[u][t] = table[u][t] || table[u][w] && table[w][t]
			}
		}
	}
	return table
}

func cyclic(table [][]bool) bool {
	for u := range table {
		if table[u][u] {
			return true
		}
	}
	return false
}

func (m model) phenomena() []int {
	var occurs [7]bool
	for t := range m {
		for _, op := range m.external(t) {
			left := api.Op{}
			if u := m.bound(t, op.Key); u >= 0 {
				left, _ = m.left(u, op.Key)
			}
			if op.Found == left.Found && op.Value == left.Value {
				continue
			}
			occurs[adya.PhMisread] = true
			if op.Found {
				occurs[adya.PhG1a] = occurs[adya.PhG1a] || m.aborted(op)
				occurs[adya.PhG1b] = occurs[adya.PhG1b] || m.between(t, op)
			}
		}
	}
	deps := m.deps()
	occurs[adya.PhG1c] = cyclic(m.reach(deps, false, adya.DepWW, adya.DepWR))
	table := m.reach(deps, true, adya.DepWW, adya.DepWR)
	for _, d := range deps {
		if d.Kind == adya.DepRW {
			occurs[adya.PhGSIb] = occurs[adya.PhGSIb] || table[d.To][d.From]
		} else {
			occurs[adya.PhGSIa] = occurs[adya.PhGSIa] || m[d.From].End > m[d.To].Start
		}
	}
	var list []int
	for phenomenon := 1; phenomenon <= 6; phenomenon++ {
		if occurs[phenomenon] {
			list = append(list, phenomenon)
		}
	}
	return list
}

// aborted tells whether an aborted transaction wrote what was read.
func (m model) aborted(read api.Op) bool {
	for _, t := range m {
		for _, op := range t.Ops {
			if t.Status == 0 && op.Kind == api.OpWrite && op.Key == read.Key && op.Value == read.Value {
				return true
			}
		}
	}
	return false
}

// between tells whether another transaction wrote what was read and wrote the
// key again.
func (m model) between(reader int, read api.Op) bool {
	for place, t := range m {
		hit := false
		for _, op := range t.Ops {
			if hit && op.Kind != api.OpRead && op.Key == read.Key && place != reader && m.member(place) {
				return true
			}
			hit = hit || op.Kind == api.OpWrite && op.Key == read.Key && op.Value == read.Value
		}
	}
	return false
}

func (m model) serial() ([]int, bool) {
	deps := m.deps()
	if cyclic(m.reach(deps, false, 1, 2, 3)) {
		return nil, false
	}
	var order []int
	for {
		least := -1
		for place := len(m) - 1; place >= 0; place-- {
			waits := slices.ContainsFunc(deps, func(d adya.Dep) bool {
				return d.To == place && !slices.Contains(order, d.From)
			})
			if m.member(place) && !slices.Contains(order, place) && !waits {
				least = place
			}
		}
		if least < 0 {
			return order, true
		}
		order = append(order, least)
	}
}

// replayed tells whether each external read tells what the last transaction
// ahead of its own in the order that writes the key left.
func (m model) replayed(order []int) bool {
	state := map[string]api.Op{}
	for _, place := range order {
		for _, op := range m.external(place) {
			if left := state[op.Key]; left.Found != op.Found || left.Value != op.Value {
				return false
			}
		}
		for _, key := range keys() {
			if op, ok := m.left(place, key); ok {
				state[key] = op
			}
		}
	}
	return true
}

func (d *dice) op() api.Op {
	key := keys()[d.below(3)]
	value := []string{"", "x", "y"}[d.below(3)]
	switch d.below(6) {
	case 0, 1:
		return found(key, value)
	case 2:
		return missed(key)
	case 3:
		return remove(key)
	}
	return write(key, value)
}

// log gives transactions of few keys, values and times, so that they meet often.
func (d *dice) log() []api.Txn {
	list := make([]api.Txn, d.below(8))
	times := 3 + d.below(12)
	for i := range list {
		start := d.below(times)
		list[i] = api.Txn{Session: i, Start: start, End: start + d.below(4), Status: min(d.below(6), 1)}
		for range d.below(5) {
			list[i].Ops = append(list[i].Ops, d.op())
		}
	}
	return list
}

// repair makes most external reads tell what they are bound to, as a log that is
// made by throwing dice misreads nearly always.
func (d *dice) repair(list []api.Txn) {
	m := model(list)
	for place := range m {
		own := map[string]int{}
		for i, op := range m[place].Ops {
			if op.Kind != api.OpRead {
				own[op.Key]++
			} else if own[op.Key] == 0 {
				left := api.Op{}
				if u := m.bound(place, op.Key); u >= 0 {
					left, _ = m.left(u, op.Key)
				}
				list[place].Ops[i] = api.Op{Kind: api.OpRead, Key: op.Key, Found: left.Found, Value: left.Value}
			}
		}
	}
}

// P20.2 to P20.4: all three calls, held against the chapter's words.
func TestModel(t *testing.T) {
	d := dice(20)
	var kinds, phenomena [7]int
	var serial, mute, none int
	for round := range 8000 {
		list := d.log()
		if round%3 > 0 {
			d.repair(list)
		}
		m := model(list)
		deps := m.deps()
		wantDeps(t, list, deps...)
		for _, dep := range deps {
			kinds[dep.Kind]++
		}
		occurring := m.phenomena()
		wantPhenomena(t, list, occurring...)
		for _, phenomenon := range occurring {
			phenomena[phenomenon]++
		}
		order, ok := m.serial()
		if !ok {
			wantNoSerial(t, list)
			none++
		} else {
			wantSerial(t, list, order...)
			serial++
		}
		if ok && !slices.Contains(occurring, adya.PhMisread) {
			got, _, _ := adya.Serial(list)
			if !m.replayed(got) {
				t.Errorf("the order %v tells no other reads: %v", got, list)
			}
			mute++
		}
		if t.Failed() {
			t.Fatalf("round %d: %+v", round, list)
		}
	}
	for _, n := range []int{kinds[1], kinds[2], kinds[3], phenomena[1], phenomena[2], phenomena[3], phenomena[5], phenomena[6], serial, mute, none} {
		if n < 50 {
			t.Errorf("too few of something: %v %v %d %d %d", kinds, phenomena, serial, mute, none)
			break
		}
	}
	// versions and reads follow the ends, so that no cycle can be of them alone
	if phenomena[adya.PhG1c] > 0 {
		t.Errorf("PhG1c %d times", phenomena[adya.PhG1c])
	}
}
