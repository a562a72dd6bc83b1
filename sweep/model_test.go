package sweep_test

import (
	"cmp"
	"slices"
	"testing"

	"proctor/api"
	"proctor/machine"
	"proctor/record"
	"proctor/rows"
	"proctor/sweep"
)

// dice is a source of numbers that is the same in every run.
type dice uint64

func (d *dice) below(n int) int {
	*d = *d*6364136223846793005 + 1442695040888963407
	return int(uint64(*d) >> 33 % uint64(n))
}

var names = []string{"a", "b", "\x00"}

func (d *dice) op() api.Op {
	key, value := names[d.below(len(names))], []string{"", "x"}[d.below(2)]
	return []api.Op{found(key, value), missed(key), missed(key), wrote(key, value), removed(key)}[d.below(5)]
}

// txn gives a sound transaction; few times make many of them meet.
func (d *dice) txn(times int) api.Txn {
	start := d.below(times)
	t := api.Txn{Start: start, End: start + 1 + d.below(8), Status: min(1, d.below(4))}
	for range d.below(6) {
		t.Ops = append(t.Ops, d.op())
	}
	return t
}

// stray gives a row that mostly can't be taken.
func (d *dice) stray(r rows.Row) rows.Row {
	switch d.below(8) {
	case 0:
		r.Kind = d.below(6) - 1
	case 1:
		r.Index += d.below(3) - 1
	case 2:
		r.Time += d.below(3) - 1
	case 3:
		r.Body = r.Body[:len(r.Body)/2]
	case 4:
		r = endRow(r.Index, d.txn(20))
	case 5:
		r.To = -1
	case 6:
		r = startRow(d.below(10), committed(r.Time, r.Time))
	}
	return r
}

// ended is a transaction with its place.
type ended struct {
	place int
	api.Txn
}

// version is what a transaction left of a key.
type version struct {
	key           string
	commit, place int
}

// model has the rows that were taken, and goes through all of them for each
// answer; only what the prunes left is kept beside them.
type model struct {
	limit, most int
	taken       []rows.Row
	held        []version
}

func (m *model) ends() []ended {
	var list []ended
	for _, r := range m.taken {
		if r.Kind == rows.RowEnd {
			t, _, _ := record.Decode([]byte(r.Body))
			list = append(list, ended{r.Index, t})
		}
	}
	return list
}

// open gives the start rows without an end.
func (m *model) open() []rows.Row {
	var list []rows.Row
	for _, r := range m.taken {
		if r.Kind == rows.RowStart && !slices.ContainsFunc(m.taken, func(x rows.Row) bool { return x.Kind == rows.RowEnd && x.Index == r.Index }) {
			list = append(list, r)
		}
	}
	return list
}

func (m *model) state() int { return len(m.open()) + len(m.held) }

func (m *model) refusal(r rows.Row) api.Errno {
	if m.most > m.limit {
		return api.ErrState
	}
	if !rows.Valid(r) || r.Kind == 3 {
		return api.ErrRow
	}
	for _, x := range m.taken {
		if slices.Compare([]int{x.Time, x.Kind, x.Index}, []int{r.Time, r.Kind, r.Index}) >= 0 {
			return api.ErrTurn
		}
	}
	if r.Kind == rows.RowStart {
		for _, x := range m.taken {
			if x.Index == r.Index {
				return api.ErrPair
			}
		}
		return api.OK
	}
	for _, x := range m.open() {
		if x.Index == r.Index {
			t, _, e := record.Decode([]byte(r.Body))
			if e != api.OK || t.Start != x.Time || t.End != r.Time {
				return api.ErrBody
			}
			return api.OK
		}
	}
	return api.ErrPair
}

func (m *model) take(r rows.Row) ([]api.Viol, api.Errno) {
	if e := m.refusal(r); e != api.OK {
		return nil, e
	}
	var list []api.Viol
	if r.Kind == rows.RowEnd {
		t, _, _ := record.Decode([]byte(r.Body))
		list = m.judge(ended{r.Index, t})
		for _, key := range names {
			if t.Status == api.Committed && wroteTo(t.Ops, key) {
				m.held = append(m.held, version{key, t.End, r.Index})
			}
		}
	}
	m.taken = append(m.taken, r)
	m.most = max(m.most, m.state())
	if m.most > m.limit {
		return nil, api.ErrState
	}
	if r.Kind == rows.RowEnd {
		m.prune(r.Time)
	}
	return list, api.OK
}

func (m *model) prune(floor int) {
	for _, r := range m.open() {
		floor = min(floor, r.Time)
	}
	var kept []version
	for _, v := range m.held {
		if !slices.ContainsFunc(m.held, func(w version) bool {
			return w.key == v.key && w.commit <= floor && (w.commit > v.commit || w.commit == v.commit && w.place > v.place)
		}) {
			kept = append(kept, v)
		}
	}
	m.held = kept
}

func wroteTo(ops []api.Op, key string) bool {
	return slices.ContainsFunc(ops, func(op api.Op) bool { return op.Key == key && op.Kind != api.OpRead })
}

// after gives what an operation's key is, if operations are done on what was there.
func after(ops []api.Op, key string, was api.Op) api.Op {
	for _, op := range ops {
		if op.Key == key && op.Kind != api.OpRead {
			was = api.Op{Found: op.Found, Value: op.Value}
		}
	}
	return was
}

func (m *model) judge(t ended) []api.Viol {
	var list []api.Viol
	for j, op := range t.Ops {
		if op.Kind == api.OpRead {
			list = append(list, m.read(t, j)...)
		} else if t.Status == api.Committed && !wroteTo(t.Ops[:j], op.Key) {
			list = append(list, m.conflict(t, j)...)
		}
	}
	for _, x := range m.ends() {
		if t.Status == api.Committed && x.Status == api.Committed && x.End == t.End {
			list = append(list, api.Viol{Kind: 5, Time: t.End, Txn: t.place, Op: -1, Witness: x.place, From: t.Start, To: t.End})
			break
		}
	}
	slices.SortFunc(list, func(a, b api.Viol) int { return cmp.Compare(a.Kind*100+a.Op, b.Kind*100+b.Op) })
	return list
}

func (m *model) read(t ended, j int) []api.Viol {
	op := t.Ops[j]
	v := api.Viol{Kind: 7, Time: t.End, Txn: t.place, Op: j, Witness: -1, Key: op.Key, Got: op.Found, Observed: op.Value, To: t.Start}
	was := api.Op{}
	for _, x := range m.ends() {
		// The ends came in the order of their versions.
		if x.Status == api.Committed && x.End <= t.Start && wroteTo(x.Ops, op.Key) {
			was, v.Witness, v.From = after(x.Ops, op.Key, was), x.place, x.End
		}
	}
	if wroteTo(t.Ops[:j], op.Key) {
		was = after(t.Ops[:j], op.Key, was)
		v.Kind, v.Witness, v.From, v.To = 6, -1, t.Start, t.End
	}
	if was.Found == op.Found && was.Value == op.Value {
		return nil
	}
	v.Want, v.Expected = was.Found, was.Value
	return []api.Viol{v}
}

func (m *model) conflict(t ended, j int) []api.Viol {
	for _, x := range m.ends() {
		if x.Status == api.Committed && x.End > t.Start && wroteTo(x.Ops, t.Ops[j].Key) {
			return []api.Viol{{Kind: 8, Time: t.End, Txn: t.place, Op: j, Witness: x.place, Key: t.Ops[j].Key, From: t.Start, To: x.End}}
		}
	}
	return nil
}

// same takes a row by both, and tells what was answered.
func same(t *testing.T, s *sweep.Sweep, m *model, r rows.Row) ([]api.Viol, api.Errno) {
	t.Helper()
	want, e := m.take(r)
	list, f := s.Take(r)
	if f != e || !slices.Equal(list, want) {
		t.Fatalf("Take(%+v) = %+v, %d; want %+v, %d", r, list, f, want, e)
	}
	if m.most <= m.limit {
		stands(t, s, len(m.open()), m.state(), m.most)
	} else if f := s.Finish(); f != api.ErrState {
		t.Fatalf("Finish = %d", f)
	}
	return list, e
}

// All promises: a sweep answers as the model. P16.4: the state is never above
// the transactions and the keys that each writes.
func TestModel(t *testing.T) {
	d := dice(16)
	errors, kinds := map[api.Errno]int{}, map[int]int{}
	for round := range 1500 {
		var log []api.Txn
		for range 2 + d.below(20) {
			log = append(log, d.txn(1+d.below(30)))
		}
		limit := api.MaxState
		if round%4 == 0 {
			limit = d.below(25)
		}
		s, m := fresh(t, limit), &model{limit: limit}
		for _, r := range events(log) {
			for d.below(5) == 0 {
				_, e := same(t, s, m, d.stray(r))
				errors[e]++
			}
			list, e := same(t, s, m, r)
			errors[e]++
			for _, v := range list {
				kinds[v.Kind]++
			}
		}
		bounded(t, s, m)
	}
	for _, e := range []api.Errno{api.OK, api.ErrRow, api.ErrTurn, api.ErrPair, api.ErrBody, api.ErrState} {
		if errors[e] < 100 {
			t.Errorf("error %d was seen %d times only", e, errors[e])
		}
	}
	for kind := api.KindTwin; kind <= api.KindConflict; kind++ {
		if kinds[kind] < 100 {
			t.Errorf("kind %d was seen %d times only", kind, kinds[kind])
		}
	}
}

func bounded(t *testing.T, s *sweep.Sweep, m *model) {
	t.Helper()
	if m.most > m.limit {
		return
	}
	bound := len(m.open())
	for _, x := range m.ends() {
		bound++
		for _, key := range names {
			if wroteTo(x.Ops, key) {
				bound++
			}
		}
	}
	if s.Most() > bound {
		t.Errorf("Most = %d with a bound of %d", s.Most(), bound)
	}
}

// P16.4: the greatest states are those of versions that an old one keeps from
// being pruned; each key of a transaction counts once.
func TestBound(t *testing.T) {
	s := fresh(t, api.MaxState)
	for place := range 30 {
		takes(t, s, startRow(place, committed(place, 100)))
	}
	for place := range 30 {
		txn := committed(place, 100+place, wrote("a", "x"), wrote("b", "x"), removed("a"))
		if _, e := s.Take(endRow(place, txn)); e != api.OK {
			t.Fatalf("Take = %d", e)
		}
		if place < 29 {
			stands(t, s, 29-place, 31+place, 31+place)
		}
	}
	stands(t, s, 0, 2, 60)
}

// What the machine emits is told no violation; what a flawed one emits is told
// the one kind that its flaw is of. The records may stand in any order.
func TestMachines(t *testing.T) {
	for flaw, kind := range []int{0, api.KindConflict, api.KindSnapshot, api.KindSnapshot, api.KindSnapshot} {
		d, told := dice(flaw), 0
		for range 60 {
			var steps []machine.Step
			for range 300 {
				kinds := []int{1, 1, 1, 2, 2, 2, 3, 3, 4, 5, 6}
				steps = append(steps, machine.Step{Kind: kinds[d.below(len(kinds))], Session: d.below(5), Gap: d.below(3), Key: names[d.below(3)], Value: string([]byte{byte(d.below(256))})})
			}
			log, e := machine.Emit(5, flaw, steps)
			if e != api.OK {
				t.Fatalf("Emit = %d", e)
			}
			for i := range log {
				j := d.below(i + 1)
				log[i], log[j] = log[j], log[i]
			}
			told += judged(t, log, flaw, kind)
		}
		if (told > 20) != (flaw != machine.FlawNone) {
			t.Errorf("flaw %d: %d violations", flaw, told)
		}
	}
}

// judged tells how many violations a log has, all of which are to be of one kind.
func judged(t *testing.T, log []api.Txn, flaw, kind int) int {
	t.Helper()
	s, told := fresh(t, api.MaxState), 0
	for _, r := range events(log) {
		list, e := s.Take(r)
		if e != api.OK {
			t.Fatalf("Take(%+v) = %d", r, e)
		}
		for _, v := range list {
			if v.Kind != kind {
				t.Errorf("flaw %d: %+v", flaw, v)
			}
		}
		told += len(list)
	}
	if e := s.Finish(); e != api.OK {
		t.Errorf("Finish = %d", e)
	}
	return told
}
