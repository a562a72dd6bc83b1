package checker_test

import (
	"cmp"
	"maps"
	"slices"

	"proctor/api"
	"proctor/checker"
	"proctor/extsort"
	"proctor/logfile"
	"proctor/record"
	"proctor/wire"
)

// dice is a source of numbers that is the same in every run.
type dice uint64

func (d *dice) below(n int) int {
	*d = *d*6364136223846793005 + 1442695040888963407
	return int(uint64(*d) >> 33 % uint64(n))
}

func (d *dice) shuffle(list []api.Txn) []api.Txn {
	list = slices.Clone(list)
	for i := range list {
		j := i + d.below(len(list)-i)
		list[i], list[j] = list[j], list[i]
	}
	return list
}

// model says the document's words of a whole log by going through the list of
// its transactions: it has no rows, no sorts and no sweep.
type model struct {
	log []api.Txn
	eps int
}

func sound(t api.Txn) bool { return t.Start < t.End }

// commits gives the places of those whose commits count, by End and then place.
func (m model) commits() []int {
	var list []int
	for i, t := range m.log {
		if sound(t) && t.Status == api.Committed {
			list = append(list, i)
		}
	}
	slices.SortStableFunc(list, func(a, b int) int { return cmp.Compare(m.log[a].End, m.log[b].End) })
	return list
}

func changes(op api.Op) bool { return op.Kind == api.OpWrite || op.Kind == api.OpDelete }

// left is what the operations leave at a key.
func left(ops []api.Op, key string) (api.Op, bool) {
	last, ok := api.Op{}, false
	for _, op := range ops {
		if changes(op) && op.Key == key {
			last, ok = op, true
		}
	}
	return last, ok
}

func (m model) violations() []api.Viol {
	var list []api.Viol
	for i, t := range m.log {
		list = append(list, m.shape(i, t)...)
		if sound(t) {
			list = append(list, m.twin(i, t)...)
			list = append(list, m.reads(i, t)...)
			list = append(list, m.conflicts(i, t)...)
		}
	}
	list = append(list, m.sessions()...)
	slices.SortFunc(list, func(a, b api.Viol) int {
		return slices.Compare([]int{a.Time, a.Kind, a.Txn, a.Op}, []int{b.Time, b.Kind, b.Txn, b.Op})
	})
	return list
}

func (m model) shape(i int, t api.Txn) []api.Viol {
	var list []api.Viol
	for _, v := range []struct {
		broken               bool
		kind, time, from, to int
	}{
		{t.Start >= t.End, api.KindInverted, t.Start, t.Start, t.End},
		{t.Invoke > t.Return, api.KindClient, t.Start, t.Invoke, t.Return},
		{t.Invoke-t.Start > m.eps, api.KindEarly, t.Start, t.Invoke, t.Start},
		{t.End-t.Return > m.eps, api.KindLate, t.End, t.End, t.Return},
	} {
		if v.broken {
			list = append(list, api.Viol{Kind: v.kind, Time: v.time, Txn: i, Op: -1, Witness: -1, From: v.from, To: v.to})
		}
	}
	return list
}

func (m model) twin(i int, t api.Txn) []api.Viol {
	for _, u := range m.commits() {
		if u < i && m.log[u].End == t.End && t.Status == api.Committed {
			return []api.Viol{{Kind: api.KindTwin, Time: t.End, Txn: i, Op: -1, Witness: u, From: t.Start, To: t.End}}
		}
	}
	return nil
}

func (m model) reads(i int, t api.Txn) []api.Viol {
	var list []api.Viol
	for j, op := range t.Ops {
		if op.Kind != api.OpRead {
			continue
		}
		v := api.Viol{Kind: api.KindInternal, Time: t.End, Txn: i, Op: j, Witness: -1, Key: op.Key, From: t.Start, To: t.End}
		seen, own := left(t.Ops[:j], op.Key)
		if !own {
			v.Kind, v.From, v.To = api.KindSnapshot, 0, t.Start
			for _, u := range m.commits() {
				if w, ok := left(m.log[u].Ops, op.Key); ok && m.log[u].End <= t.Start {
					seen, v.Witness, v.From = w, u, m.log[u].End
				}
			}
		}
		if seen.Found != op.Found || seen.Value != op.Value {
			v.Want, v.Expected, v.Got, v.Observed = seen.Found, seen.Value, op.Found, op.Value
			list = append(list, v)
		}
	}
	return list
}

func (m model) conflicts(i int, t api.Txn) []api.Viol {
	var list []api.Viol
	for j, op := range t.Ops {
		if _, again := left(t.Ops[:j], op.Key); again || !changes(op) || t.Status != api.Committed {
			continue
		}
		for _, u := range m.commits() {
			end := m.log[u].End
			_, writes := left(m.log[u].Ops, op.Key)
			if writes && end > t.Start && (end < t.End || end == t.End && u < i) {
				list = append(list, api.Viol{Kind: api.KindConflict, Time: t.End, Txn: i, Op: j, Witness: u, Key: op.Key, From: t.Start, To: end})
				break
			}
		}
	}
	return list
}

func (m model) sessions() []api.Viol {
	places := make([]int, len(m.log))
	for i := range places {
		places[i] = i
	}
	slices.SortStableFunc(places, func(a, b int) int {
		return cmp.Or(cmp.Compare(m.log[a].Session, m.log[b].Session), cmp.Compare(m.log[a].Seq, m.log[b].Seq))
	})
	var list []api.Viol
	for n := 1; n < len(places); n++ {
		a, b := m.log[places[n-1]], m.log[places[n]]
		v := api.Viol{Time: b.Start, Txn: places[n], Op: -1, Witness: places[n-1], From: a.End, To: b.Start}
		if a.Session == b.Session && a.Seq == b.Seq {
			v.Kind = api.KindRepeat
		} else if a.Session == b.Session && b.Start < a.End {
			v.Kind = api.KindSession
		} else {
			continue
		}
		list = append(list, v)
	}
	return list
}

// event is a start or an end.
type event struct {
	time, kind, place int // kind 1: an end, 2: a start
}

func (m model) events() []event {
	var list []event
	for i, t := range m.log {
		if sound(t) {
			list = append(list, event{t.Start, 2, i}, event{t.End, 1, i})
		}
	}
	slices.SortFunc(list, func(a, b event) int {
		return slices.Compare([]int{a.time, a.kind, a.place}, []int{b.time, b.kind, b.place})
	})
	return list
}

// states gives the state that is held against the limit at each event.
func (m model) states() []int {
	var held []event // versions: kind is the key's place in keys
	var keys []string
	var states []int
	open := map[int]int{}
	for _, x := range m.events() {
		t := m.log[x.place]
		if x.kind == 2 {
			open[x.place] = x.time
			states = append(states, len(open)+len(held))
			continue
		}
		delete(open, x.place)
		for j, op := range t.Ops {
			if _, later := left(t.Ops[j+1:], op.Key); changes(op) && !later && t.Status == api.Committed {
				if !slices.Contains(keys, op.Key) {
					keys = append(keys, op.Key)
				}
				held = append(held, event{x.time, slices.Index(keys, op.Key), x.place})
			}
		}
		states = append(states, len(open)+len(held))
		floor := x.time
		for start := range maps.Values(open) {
			floor = min(floor, start)
		}
		all := slices.Clone(held)
		held = slices.DeleteFunc(held, func(v event) bool {
			return slices.ContainsFunc(all, func(w event) bool {
				return w.kind == v.kind && w.time <= floor && (w.time > v.time || w.time == v.time && w.place > v.place)
			})
		})
	}
	return states
}

// outcome is what a check without faults, with room enough, answers of an input;
// and how many beats it asks.
func outcome(c api.Config, input []byte) (api.Outcome, int) {
	s := logfile.NewScanner()
	s.Feed(input)
	s.End()
	m := model{eps: c.Eps}
	for {
		t, ok, e := s.Next()
		if e != api.OK {
			return api.Outcome{Kind: api.OutMalformed, Code: e, Offset: s.Offset()}, len(m.log)
		}
		if !ok {
			break
		}
		m.log = append(m.log, t)
	}
	states := m.states()
	for i, state := range states {
		if state > c.State {
			return api.Outcome{Kind: api.OutState}, len(m.log) + i + 1
		}
	}
	beats := 2*len(m.log) + len(states)
	list := m.violations()
	if len(list) == 0 {
		return api.Outcome{Kind: api.OutAccept, Txns: len(m.log)}, beats
	}
	return api.Outcome{Kind: api.OutReject, Txns: len(m.log), Total: len(list), List: list[:min(len(list), c.Limit)]}, beats
}

// sizes gives the sizes of the rows that go into the two sorts, in their order.
func sizes(log []api.Txn) (events, sessions []int) {
	for i, t := range log {
		if sound(t) {
			events = append(events, 5+wire.Size(t.Start)+wire.Size(i))
			body := record.Size(t)
			events = append(events, 4+wire.Size(t.End)+wire.Size(i)+wire.Size(body)+body)
		}
		size := 2
		for _, n := range []int{t.Session, t.Seq, i, t.Start, t.End} {
			size += wire.Size(n)
		}
		sessions = append(sessions, size)
	}
	return events, sessions
}

// stats is what a sort of rows of these sizes uses.
func stats(sizes []int, budget, fan, block int) extsort.Stats {
	var s extsort.Stats
	held, file := 0, 0
	spill := func() {
		s.Runs++
		s.Blocks += (file + block - 1) / block
		held, file = 0, 0
	}
	for _, n := range sizes {
		if held+n > budget {
			spill()
		}
		held += n
		file += wire.Size(n) + n
		s.Rows++
		s.Bytes += n
		s.Peak = max(s.Peak, held)
	}
	if held > 0 {
		spill()
	}
	for left := s.Runs; left > 1; left = (left + fan - 1) / fan {
		s.Passes++
	}
	return s
}

// usage is what a whole check uses.
func usage(c api.Config, log []api.Txn, block int) checker.Usage {
	events, sessions := sizes(log)
	return checker.Usage{
		Events:   stats(events, c.Budget/2, c.Fan, block),
		Sessions: stats(sessions, c.Budget/2, c.Fan, block),
		State:    slices.Max(append(model{log: log}.states(), 0)),
	}
}

// room is how many blocks are enough.
func room(c api.Config, u checker.Usage) int {
	return 2*(u.Events.Blocks+u.Sessions.Blocks) + c.Fan + 2
}

// isRun tells whether a log is a run of the machine of snapshot isolation that
// keeps the rules of shape, skew, twin commits and sessions. It plays the log:
// each start takes a whole copy of what is committed, no commit finds what its
// keys hold changed since its start.
func isRun(log []api.Txn, eps int) bool {
	for i, t := range log {
		if t.Start >= t.End || t.Return < t.Invoke || t.Start+eps < t.Invoke || t.Return+eps < t.End {
			return false
		}
		for j, u := range log {
			if i == j || t.Session != u.Session {
				continue
			}
			// Where each starts behind the one ahead of it, all others are behind too.
			if t.Seq == u.Seq || t.Seq < u.Seq && u.Start < t.End {
				return false
			}
		}
	}
	return plays(log)
}

func plays(log []api.Txn) bool {
	values := map[string]api.Op{}
	changed := map[string]int{} // how often a commit has changed the key
	snapshots := map[int]map[string]api.Op{}
	before := map[int]map[string]int{}
	last := -1
	for _, x := range (model{log: log}).events() {
		if x.kind == 2 {
			snapshots[x.place], before[x.place] = maps.Clone(values), maps.Clone(changed)
			continue
		}
		sees := snapshots[x.place]
		wrote := map[string]api.Op{}
		for _, op := range log[x.place].Ops {
			if op.Kind == api.OpRead {
				if at := sees[op.Key]; at.Found != op.Found || at.Value != op.Value {
					return false
				}
				continue
			}
			sees[op.Key], wrote[op.Key] = op, op
		}
		if log[x.place].Status == api.Aborted {
			continue
		}
		if last == x.time {
			return false
		}
		last = x.time
		for key := range wrote {
			if changed[key] != before[x.place][key] {
				return false
			}
			changed[key]++
		}
		maps.Copy(values, wrote)
	}
	return true
}
