package machine_test

import (
	"testing"

	"proctor/api"
	"proctor/machine"
	"proctor/record"
)

// dice is a source of numbers that is the same in every run.
type dice uint64

func (d *dice) below(n int) int {
	*d = *d*6364136223846793005 + 1442695040888963407
	return int(uint64(*d) >> 33 % uint64(n))
}

// step gives a step; a few aren't right.
func (d *dice) step(sessions int) machine.Step {
	kinds := []int{1, 1, 1, 2, 2, 2, 2, 2, 3, 3, 3, 3, 4, 5, 5, 6, d.below(9) - 1}
	s := machine.Step{Kind: kinds[d.below(len(kinds))], Session: d.below(sessions), Gap: d.below(3)}
	s.Key, s.Value = []string{"a", "b", "\x00"}[d.below(3)], string([]byte{byte(d.below(256))})
	switch d.below(60) {
	case 0:
		s.Session = sessions * (2*d.below(2) - 1)
	case 1:
		s.Gap = -1 + d.below(2)*(api.MaxGap+2)
	case 2:
		s.Key = []string{"", longKey}[d.below(2)]
	case 3:
		s.Value = []string{"", longValue}[d.below(2)]
	}
	return s
}

// event is a step that was carried out, what it answered, its time, and the
// number of its transaction. The model has the list of all events and nothing
// else, and goes through the whole of it for each answer.
type event struct {
	machine.Step
	machine.Answer
	time, txn int
}

type model struct {
	sessions, flaw int
	events         []event
}

func (m *model) now() int {
	if len(m.events) == 0 {
		return 0
	}
	return m.events[len(m.events)-1].time
}

// active gives the number of a session's active transaction, or -1.
func (m *model) active(session int) int {
	txn := -1
	for _, e := range m.events {
		if e.Session != session {
			continue
		}
		txn = e.txn
		if e.Kind == machine.StepCommit || e.Kind == machine.StepAbort {
			txn = -1
		}
	}
	return txn
}

// count tells how many events there are of a transaction (-1: of all), of a
// kind from first to last.
func (m *model) count(txn, first, last int) int {
	n := 0
	for _, e := range m.events {
		if (txn < 0 || e.txn == txn) && e.Kind >= first && e.Kind <= last {
			n++
		}
	}
	return n
}

func (m *model) refusal(s machine.Step) api.Errno {
	operates := s.Kind >= 2 && s.Kind <= 4
	if s.Kind < 1 || s.Kind > 6 {
		return api.ErrStep
	}
	if s.Session < 0 || s.Session >= m.sessions {
		return api.ErrSession
	}
	if s.Gap < 0 || s.Gap > 1000 {
		return api.ErrGap
	}
	if operates && (len(s.Key) < 1 || len(s.Key) > 8) {
		return api.ErrKey
	}
	if s.Kind == 3 && len(s.Value) > 16 {
		return api.ErrValue
	}
	txn := m.active(s.Session)
	if s.Kind == 1 && txn >= 0 {
		return api.ErrActive
	}
	if s.Kind != 1 && txn < 0 {
		return api.ErrIdle
	}
	if operates && m.count(txn, 2, 4) == 16 {
		return api.ErrOps
	}
	return api.OK
}

// start gives the time at which a transaction began.
func (m *model) start(txn int) int {
	for _, e := range m.events {
		if e.txn == txn {
			return e.time
		}
	}
	return -1
}

// writes gives the last write or delete of a key by a transaction.
func (m *model) writes(txn int, key string) (event, bool) {
	last, ok := event{}, false
	for _, e := range m.events {
		if e.txn == txn && e.Key == key && (e.Kind == machine.StepWrite || e.Kind == machine.StepDelete) {
			last, ok = e, true
		}
	}
	return last, ok
}

// versions gives what commits left of a key from a time to another, in their
// order.
func (m *model) versions(key string, from, to int) []event {
	var list []event
	for _, e := range m.events {
		if e.Kind == machine.StepCommit && e.Status == api.Committed && e.time >= from && e.time <= to {
			if w, ok := m.writes(e.txn, key); ok {
				list = append(list, w)
			}
		}
	}
	return list
}

// left is what a read of an event tells: a write its value, a delete nothing.
func left(e event) machine.Answer {
	if e.Kind == machine.StepWrite {
		return machine.Answer{Found: true, Value: e.Step.Value}
	}
	return machine.Answer{}
}

func lastOf(list []event) machine.Answer {
	if len(list) == 0 {
		return machine.Answer{}
	}
	return left(list[len(list)-1])
}

func (m *model) read(txn int, key string) machine.Answer {
	if own, ok := m.writes(txn, key); ok {
		return left(own)
	}
	snapshot := m.versions(key, 0, m.start(txn))
	switch m.flaw {
	case machine.FlawLate:
		return lastOf(m.versions(key, 0, m.now()))
	case machine.FlawStale:
		return lastOf(snapshot[:max(0, len(snapshot)-1)])
	case machine.FlawDirty:
		if dirty := m.dirty(key); len(dirty) > 0 {
			return lastOf(dirty)
		}
	}
	return lastOf(snapshot)
}

// dirty gives the writes and deletes of a key by transactions that are active.
func (m *model) dirty(key string) []event {
	var list []event
	for _, e := range m.events {
		if e.Key == key && (e.Kind == machine.StepWrite || e.Kind == machine.StepDelete) && m.active(e.Session) == e.txn {
			list = append(list, e)
		}
	}
	return list
}

func (m *model) commit(txn int) machine.Answer {
	for _, key := range []string{"a", "b", "\x00"} {
		_, writes := m.writes(txn, key)
		if writes && m.flaw != machine.FlawLost && len(m.versions(key, m.start(txn)+1, m.now())) > 0 {
			return machine.Answer{Status: api.Aborted}
		}
	}
	return machine.Answer{Status: api.Committed}
}

func (m *model) do(s machine.Step) (machine.Answer, api.Errno) {
	if e := m.refusal(s); e != api.OK {
		return machine.Answer{}, e
	}
	done := event{Step: s, time: m.now() + 1 + s.Gap, txn: m.active(s.Session)}
	switch s.Kind {
	case machine.StepBegin:
		done.txn = m.count(-1, 1, 1)
	case machine.StepRead:
		done.Answer = m.read(done.txn, s.Key)
	case machine.StepCommit:
		done.Answer = m.commit(done.txn)
	}
	m.events = append(m.events, done)
	return done.Answer, api.OK
}

// log gives the transactions that an event finishes, in the order of these.
func (m *model) log() []api.Txn {
	var list []api.Txn
	for _, e := range m.events {
		if e.Kind == machine.StepCommit || e.Kind == machine.StepAbort {
			list = append(list, m.finished(e))
		}
	}
	return list
}

func (m *model) finished(end event) api.Txn {
	txn := api.Txn{Session: end.Session, End: end.time, Return: end.time, Status: end.Status}
	before := 0
	for _, e := range m.events {
		switch {
		case e.txn == end.txn && e.Kind == machine.StepBegin:
			txn.Start, txn.Invoke = e.time, before
		case e.Kind == machine.StepBegin && e.Session == end.Session && e.txn < end.txn:
			txn.Seq++
		case e.txn == end.txn && e.Kind == machine.StepRead:
			txn.Ops = append(txn.Ops, api.Op{Kind: api.OpRead, Key: e.Key, Found: e.Found, Value: e.Answer.Value})
		case e.txn == end.txn && e.Kind == machine.StepWrite:
			txn.Ops = append(txn.Ops, wrote(e.Key, e.Step.Value))
		case e.txn == end.txn && e.Kind == machine.StepDelete:
			txn.Ops = append(txn.Ops, removed(e.Key))
		}
		before = e.time
	}
	return txn
}

// look holds all that a machine tells of itself against the model.
func look(t *testing.T, m *machine.Machine, w *model) {
	t.Helper()
	if m.Now() != w.now() {
		t.Errorf("Now = %d; want %d", m.Now(), w.now())
	}
	for session := -1; session <= w.sessions; session++ {
		if m.Active(session) != (w.active(session) >= 0) {
			t.Errorf("Active(%d) = %t", session, m.Active(session))
		}
	}
	for _, key := range []string{"a", "b", "\x00", "c", ""} {
		want := lastOf(w.versions(key, 0, w.now()))
		if v, ok := m.Value(key); v != want.Value || ok != want.Found {
			t.Errorf("Value(%q) = %q, %t; want %+v", key, v, ok, want)
		}
	}
	logs(t, m, w.log()...)
}

// All promises: a machine, and Emit, answer as the model.
func TestModel(t *testing.T) {
	d := dice(15)
	seen, aborted := map[api.Errno]int{}, 0
	for round := range 250 {
		sessions, flaw := 1+round%4, round%5
		m, w := start(t, sessions, flaw), &model{sessions: sessions, flaw: flaw}
		var steps []machine.Step
		for step := range 150 {
			s := d.step(sessions)
			steps = append(steps, s)
			want, e := w.do(s)
			if a, f := m.Do(s); a != want || f != e {
				t.Fatalf("round %d, flaw %d: Do(%+v) = %+v, %d; want %+v, %d", round, flaw, s, a, f, want, e)
			}
			seen[e]++
			if e == api.OK && s.Kind == machine.StepCommit && want.Status == api.Aborted {
				aborted++
			}
			if step%25 == 0 {
				look(t, m, w)
			}
		}
		look(t, m, w)
		emits(t, w, steps)
	}
	for _, e := range []api.Errno{api.OK, api.ErrStep, api.ErrSession, api.ErrGap, api.ErrKey, api.ErrValue, api.ErrActive, api.ErrIdle, api.ErrOps} {
		if seen[e] < 50 {
			t.Errorf("error %d was seen %d times only", e, seen[e])
		}
	}
	if aborted < 50 {
		t.Errorf("%d commits failed only", aborted)
	}
}

// emits holds Emit against the model, whose active transactions are aborted.
func emits(t *testing.T, w *model, steps []machine.Step) {
	t.Helper()
	for session := range w.sessions {
		w.do(abort(session))
	}
	log, e := machine.Emit(w.sessions, w.flaw, steps)
	if e != api.OK {
		t.Fatalf("Emit = %d", e)
	}
	sameLog(t, log, w.log())
	for _, txn := range log {
		if e := record.Valid(txn); e != api.OK {
			t.Errorf("%+v isn't right: %d", txn, e)
		}
	}
}
