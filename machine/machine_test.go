package machine_test

import (
	"math"
	"reflect"
	"slices"
	"strings"
	"testing"

	"proctor/api"
	"proctor/machine"
	"proctor/record"
)

var flaws = []int{machine.FlawNone, machine.FlawLost, machine.FlawLate, machine.FlawStale, machine.FlawDirty}

func begin(session int) machine.Step { return machine.Step{Kind: machine.StepBegin, Session: session} }

func read(session int, key string) machine.Step {
	return machine.Step{Kind: machine.StepRead, Session: session, Key: key}
}

func write(session int, key, value string) machine.Step {
	return machine.Step{Kind: machine.StepWrite, Session: session, Key: key, Value: value}
}

func remove(session int, key string) machine.Step {
	return machine.Step{Kind: machine.StepDelete, Session: session, Key: key}
}

func commit(session int) machine.Step {
	return machine.Step{Kind: machine.StepCommit, Session: session}
}

func abort(session int) machine.Step { return machine.Step{Kind: machine.StepAbort, Session: session} }

func later(gap int, s machine.Step) machine.Step {
	s.Gap = gap
	return s
}

// wrote, found, missed and removed are the operations of a log.
func wrote(key, value string) api.Op {
	return api.Op{Kind: api.OpWrite, Key: key, Found: true, Value: value}
}

func found(key, value string) api.Op {
	return api.Op{Kind: api.OpRead, Key: key, Found: true, Value: value}
}

func missed(key string) api.Op { return api.Op{Kind: api.OpRead, Key: key} }

func removed(key string) api.Op { return api.Op{Kind: api.OpDelete, Key: key} }

func start(t *testing.T, sessions, flaw int) *machine.Machine {
	t.Helper()
	m, e := machine.New(sessions, flaw)
	if e != api.OK || m == nil {
		t.Fatalf("New(%d, %d) = %v, %d", sessions, flaw, m, e)
	}
	return m
}

// does takes steps that answer nothing but a status, which isn't looked at.
func does(t *testing.T, m *machine.Machine, steps ...machine.Step) {
	t.Helper()
	for _, s := range steps {
		a, e := m.Do(s)
		if e != api.OK {
			t.Fatalf("Do(%+v) = %d", s, e)
		}
		if s.Kind != machine.StepCommit && s.Kind != machine.StepRead && a != (machine.Answer{}) {
			t.Errorf("Do(%+v) = %+v; want no answer", s, a)
		}
	}
}

// tells takes one step and looks at its answer.
func tells(t *testing.T, m *machine.Machine, s machine.Step, want machine.Answer) {
	t.Helper()
	if a, e := m.Do(s); a != want || e != api.OK {
		t.Errorf("Do(%+v) = %+v, %d; want %+v", s, a, e, want)
	}
}

func finds(t *testing.T, m *machine.Machine, session int, key, value string) {
	t.Helper()
	tells(t, m, read(session, key), machine.Answer{Found: true, Value: value})
}

func misses(t *testing.T, m *machine.Machine, session int, key string) {
	t.Helper()
	tells(t, m, read(session, key), machine.Answer{})
}

func commits(t *testing.T, m *machine.Machine, session int) {
	t.Helper()
	tells(t, m, commit(session), machine.Answer{Status: api.Committed})
}

func fails(t *testing.T, m *machine.Machine, session int) {
	t.Helper()
	tells(t, m, commit(session), machine.Answer{Status: api.Aborted})
}

// puts commits one write by a transaction of its own.
func puts(t *testing.T, m *machine.Machine, session int, key, value string) {
	t.Helper()
	does(t, m, begin(session), write(session, key, value))
	commits(t, m, session)
}

func drops(t *testing.T, m *machine.Machine, session int, key string) {
	t.Helper()
	does(t, m, begin(session), remove(session, key))
	commits(t, m, session)
}

func holds(t *testing.T, m *machine.Machine, key, value string) {
	t.Helper()
	if v, ok := m.Value(key); v != value || !ok {
		t.Errorf("Value(%q) = %q, %t; want %q", key, v, ok, value)
	}
}

func lacks(t *testing.T, m *machine.Machine, key string) {
	t.Helper()
	if v, ok := m.Value(key); v != "" || ok {
		t.Errorf("Value(%q) = %q, %t; want none", key, v, ok)
	}
}

func logs(t *testing.T, m *machine.Machine, want ...api.Txn) {
	t.Helper()
	sameLog(t, m.Log(), want)
}

func sameLog(t *testing.T, got, want []api.Txn) {
	t.Helper()
	if len(got) != len(want) {
		t.Fatalf("the log has %d transactions; want %d", len(got), len(want))
	}
	for i := range want {
		if !sameTxn(got[i], want[i]) {
			t.Errorf("transaction %d is %+v; want %+v", i, got[i], want[i])
		}
	}
}

func sameTxn(a, b api.Txn) bool {
	ops := slices.Equal(a.Ops, b.Ops)
	a.Ops, b.Ops = nil, nil
	return ops && reflect.DeepEqual(a, b)
}

// refuses takes a step that changes nothing: neither what is told now, nor,
// as the tests go on behind it, what is told later.
func refuses(t *testing.T, m *machine.Machine, s machine.Step, want api.Errno) {
	t.Helper()
	now, log := m.Now(), m.Log()
	var active []bool
	for i := range api.MaxSessions {
		active = append(active, m.Active(i))
	}
	if a, e := m.Do(s); a != (machine.Answer{}) || e != want {
		t.Errorf("Do(%+v) = %+v, %d; want %d", s, a, e, want)
	}
	if m.Now() != now {
		t.Errorf("Do(%+v): the clock went on from %d to %d", s, now, m.Now())
	}
	for i := range api.MaxSessions {
		if m.Active(i) != active[i] {
			t.Errorf("Do(%+v): Active(%d) = %t", s, i, m.Active(i))
		}
	}
	sameLog(t, m.Log(), log)
}

// The chapter's examples.
func TestExamples(t *testing.T) {
	m := start(t, 2, machine.FlawNone)
	does(t, m, begin(0), write(0, "a", "x"), begin(1))
	commits(t, m, 0)
	misses(t, m, 1, "a")
	does(t, m, write(1, "a", "y"))
	fails(t, m, 1)
	holds(t, m, "a", "x")
	logs(t, m,
		api.Txn{Session: 0, Seq: 0, Start: 1, End: 4, Invoke: 0, Return: 4, Status: api.Committed, Ops: []api.Op{wrote("a", "x")}},
		api.Txn{Session: 1, Seq: 0, Start: 3, End: 7, Invoke: 2, Return: 7, Status: api.Aborted, Ops: []api.Op{missed("a"), wrote("a", "y")}})

	m = start(t, 2, machine.FlawLate)
	does(t, m, begin(0), write(0, "a", "x"), begin(1), commit(0))
	finds(t, m, 1, "a", "x")

	m = start(t, 2, machine.FlawLost)
	does(t, m, begin(0), write(0, "a", "x"), begin(1), commit(0))
	misses(t, m, 1, "a")
	does(t, m, write(1, "a", "y"))
	commits(t, m, 1)
	holds(t, m, "a", "y")

	m = start(t, 2, machine.FlawDirty)
	does(t, m, begin(0), write(0, "a", "x"), begin(1))
	finds(t, m, 1, "a", "x")
}

// P15.1: sessions from 1 to MaxSessions, the five flaws, the sessions first.
func TestNewBounds(t *testing.T) {
	for _, flaw := range flaws {
		for _, sessions := range []int{1, 2, api.MaxSessions - 1, api.MaxSessions} {
			start(t, sessions, flaw)
		}
	}
	wrong := []int{-1, 5, 6, 256, 1 << 32, math.MinInt, math.MaxInt}
	for _, sessions := range []int{0, -1, api.MaxSessions + 1, 256 + 1, 1<<32 + 1, math.MinInt, math.MaxInt} {
		for _, flaw := range append(wrong, flaws...) {
			refusesNew(t, sessions, flaw, api.ErrSessions)
		}
	}
	for _, flaw := range wrong {
		refusesNew(t, 1, flaw, api.ErrFlaw)
		refusesNew(t, api.MaxSessions, flaw, api.ErrFlaw)
	}
}

func refusesNew(t *testing.T, sessions, flaw int, want api.Errno) {
	t.Helper()
	if m, e := machine.New(sessions, flaw); m != nil || e != want {
		t.Errorf("New(%d, %d) = %v, %d; want %d", sessions, flaw, m, e, want)
	}
	if log, e := machine.Emit(sessions, flaw, []machine.Step{begin(0), commit(0)}); len(log) > 0 || e != want {
		t.Errorf("Emit(%d, %d) = %v, %d; want %d", sessions, flaw, log, e, want)
	}
}

// P15.1, P15.6: a new machine has nothing, and can be asked for anything.
func TestFresh(t *testing.T) {
	for _, flaw := range flaws {
		m := start(t, 3, flaw)
		if m.Now() != 0 {
			t.Errorf("Now = %d", m.Now())
		}
		for _, session := range []int{math.MinInt, -1, 0, 1, 2, 3, 64, math.MaxInt} {
			if m.Active(session) {
				t.Errorf("Active(%d)", session)
			}
		}
		for _, key := range []string{"", "a", "\x00", strings.Repeat("k", api.MaxKey+1), strings.Repeat("k", 1<<16)} {
			lacks(t, m, key)
		}
		logs(t, m)
	}
}

var (
	longKey   = strings.Repeat("k", api.MaxKey+1)
	longValue = strings.Repeat("v", api.MaxValue+1)
)

// P15.2: each error at its bounds, on an idle and on an active session.
func TestStepBounds(t *testing.T) {
	for _, idle := range []bool{true, false} {
		m := start(t, 3, machine.FlawNone)
		if !idle {
			does(t, m, begin(0), begin(1), begin(2))
		}
		for _, kind := range []int{0, -1, 7, 8, 256 + 1, 1<<32 + 1, math.MinInt, math.MaxInt} {
			refuses(t, m, machine.Step{Kind: kind, Key: "a"}, api.ErrStep)
		}
		for kind := machine.StepBegin; kind <= machine.StepAbort; kind++ {
			for _, session := range []int{-1, 3, 4, 64, 256, 1 << 32, math.MinInt, math.MaxInt} {
				refuses(t, m, machine.Step{Kind: kind, Session: session, Key: "a"}, api.ErrSession)
			}
			for _, gap := range []int{-1, api.MaxGap + 1, 1 << 40, math.MinInt, math.MaxInt} {
				refuses(t, m, machine.Step{Kind: kind, Gap: gap, Key: "a"}, api.ErrGap)
			}
		}
		for kind := machine.StepRead; kind <= machine.StepDelete; kind++ {
			for _, key := range []string{"", longKey, strings.Repeat("\x00", 256+1), strings.Repeat("k", 1<<16)} {
				refuses(t, m, machine.Step{Kind: kind, Key: key}, api.ErrKey)
			}
		}
		for _, value := range []string{longValue, strings.Repeat("\x00", 256), strings.Repeat("v", 1<<16)} {
			refuses(t, m, write(0, "a", value), api.ErrValue)
		}
		for session := range 3 {
			if idle {
				refuses(t, m, read(session, "a"), api.ErrIdle)
				refuses(t, m, write(session, "a", "x"), api.ErrIdle)
				refuses(t, m, remove(session, "a"), api.ErrIdle)
				refuses(t, m, commit(session), api.ErrIdle)
				refuses(t, m, abort(session), api.ErrIdle)
			} else {
				refuses(t, m, begin(session), api.ErrActive)
			}
		}
	}
}

// P15.2: of several errors the first is told.
func TestErrorOrder(t *testing.T) {
	m := start(t, 2, machine.FlawNone)
	does(t, m, begin(1))
	wrong := machine.Step{Kind: 0, Session: 2, Gap: -1, Key: longKey, Value: longValue}
	refuses(t, m, wrong, api.ErrStep)
	wrong.Kind = machine.StepWrite
	refuses(t, m, wrong, api.ErrSession)
	wrong.Session = 0
	refuses(t, m, wrong, api.ErrGap)
	wrong.Gap = 0
	refuses(t, m, wrong, api.ErrKey)
	wrong.Key = "k"
	refuses(t, m, wrong, api.ErrValue)
	wrong.Value = "v"
	refuses(t, m, wrong, api.ErrIdle)
	refuses(t, m, later(-1, begin(1)), api.ErrGap)
	refuses(t, m, begin(1), api.ErrActive)
	if m.Now() != 1 {
		t.Errorf("Now = %d", m.Now())
	}
}

// P15.2: what a kind doesn't use is not looked at, and isn't kept.
func TestUnused(t *testing.T) {
	m := start(t, 1, machine.FlawNone)
	for _, s := range []machine.Step{
		{Kind: machine.StepBegin, Key: longKey, Value: longValue},
		{Kind: machine.StepRead, Key: "a", Value: longValue},
		{Kind: machine.StepDelete, Key: "a", Value: longValue},
		{Kind: machine.StepDelete, Key: "b", Value: "v"},
		{Kind: machine.StepRead, Key: "a", Value: "v"},
		{Kind: machine.StepCommit, Key: longKey, Value: longValue},
		{Kind: machine.StepBegin, Key: "", Value: "v"},
		{Kind: machine.StepAbort, Key: longKey, Value: longValue},
	} {
		does(t, m, s)
	}
	logs(t, m,
		api.Txn{Start: 1, End: 6, Return: 6, Status: api.Committed, Ops: []api.Op{missed("a"), removed("a"), removed("b"), missed("a")}},
		api.Txn{Seq: 1, Start: 7, End: 8, Invoke: 6, Return: 8})
}

// P15.2: keys and values up to their bounds, and of any bytes.
func TestTexts(t *testing.T) {
	for _, key := range []string{"a", "\x00", "\xff", " ", "\n", strings.Repeat("\xff", api.MaxKey), strings.Repeat("k", api.MaxKey)} {
		for _, value := range []string{"", "\x00", "x", "\xff\x80", strings.Repeat("v", api.MaxValue), strings.Repeat("\x00", api.MaxValue)} {
			m := start(t, 1, machine.FlawNone)
			puts(t, m, 0, key, value)
			holds(t, m, key, value)
			does(t, m, begin(0))
			finds(t, m, 0, key, value)
			misses(t, m, 0, "other")
			commits(t, m, 0)
			for _, txn := range m.Log() {
				if e := record.Valid(txn); e != api.OK {
					t.Errorf("%+v isn't right: %d", txn, e)
				}
			}
		}
	}
}

// P15.2, P15.3, P15.4: the clock goes on by 1 + Gap, and what times it gives.
func TestClock(t *testing.T) {
	m := start(t, 2, machine.FlawNone)
	now := 0
	for i, s := range []machine.Step{
		later(0, begin(0)), later(4, begin(1)), later(api.MaxGap, write(0, "a", "x")), later(1, read(1, "a")),
		later(999, remove(1, "b")), later(2, commit(0)), later(7, abort(1)), later(10, begin(1)), later(3, commit(1)),
	} {
		does(t, m, s)
		now += 1 + s.Gap
		if m.Now() != now {
			t.Errorf("step %d: Now = %d; want %d", i, m.Now(), now)
		}
		refuses(t, m, later(5, begin(2)), api.ErrSession)
	}
	logs(t, m,
		api.Txn{Session: 0, Start: 1, End: 2012, Invoke: 0, Return: 2012, Status: api.Committed, Ops: []api.Op{wrote("a", "x")}},
		api.Txn{Session: 1, Start: 6, End: 2020, Invoke: 1, Return: 2020, Ops: []api.Op{missed("a"), removed("b")}},
		api.Txn{Session: 1, Seq: 1, Start: 2031, End: 2035, Invoke: 2020, Return: 2035, Status: api.Committed})
}

// P15.2: a transaction has MaxOps operations, of which kinds ever, and can
// still be finished; the next one has its own.
func TestMaxOps(t *testing.T) {
	for _, end := range []machine.Step{commit(0), abort(0)} {
		m := start(t, 2, machine.FlawNone)
		does(t, m, begin(0), begin(1))
		steps := []machine.Step{read(0, "a"), write(0, "a", "x"), remove(0, "b")}
		for i := range api.MaxOps {
			does(t, m, steps[i%3])
		}
		for _, s := range steps {
			refuses(t, m, s, api.ErrOps)
			refuses(t, m, later(-1, s), api.ErrGap)
			does(t, m, machine.Step{Kind: s.Kind, Session: 1, Key: "c"})
		}
		refuses(t, m, write(0, "a", longValue), api.ErrValue)
		refuses(t, m, remove(0, longKey), api.ErrKey)
		refuses(t, m, begin(0), api.ErrActive)
		does(t, m, end, begin(0), read(0, "a"))
		if n := len(m.Log()[0].Ops); n != api.MaxOps {
			t.Errorf("%d operations", n)
		}
	}
}

// P15.2: MaxTxns transactions are begun, finished or not; then no other.
func TestMaxTxns(t *testing.T) {
	m := start(t, 2, machine.FlawNone)
	for i := range api.MaxTxns - 1 {
		does(t, m, begin(0), write(0, "a", "x"), machine.Step{Kind: machine.StepCommit + i%2})
		if _, e := m.Do(begin(2)); e != api.ErrSession {
			t.Fatalf("a begin of a session that there isn't: %d", e)
		}
	}
	does(t, m, begin(1))
	refuses(t, m, begin(0), api.ErrTxns)
	refuses(t, m, begin(1), api.ErrActive)
	refuses(t, m, later(-1, begin(0)), api.ErrGap)
	refuses(t, m, write(0, "a", "y"), api.ErrIdle)
	does(t, m, write(1, "b", "y"))
	commits(t, m, 1)
	refuses(t, m, begin(1), api.ErrTxns)
	refuses(t, m, begin(0), api.ErrTxns)
	log := m.Log()
	if len(log) != api.MaxTxns {
		t.Fatalf("%d transactions", len(log))
	}
	for i, txn := range log[:api.MaxTxns-1] {
		want := api.Txn{Seq: i, Start: 3*i + 1, End: 3*i + 3, Invoke: 3 * i, Return: 3*i + 3, Status: 1 - i%2, Ops: []api.Op{wrote("a", "x")}}
		if !sameTxn(txn, want) {
			t.Fatalf("transaction %d is %+v; want %+v", i, txn, want)
		}
	}
	if last := log[api.MaxTxns-1]; last.Session != 1 || last.Seq != 0 || last.Status != api.Committed {
		t.Errorf("the last is %+v", last)
	}
	holds(t, m, "b", "y")
}

// P15.3: Seq counts the session's own transactions, however they end.
func TestSeq(t *testing.T) {
	m := start(t, 3, machine.FlawNone)
	does(t, m, begin(2), begin(0), abort(2), begin(2), commit(0), commit(2), begin(0), begin(2), begin(1))
	refuses(t, m, begin(2), api.ErrActive)
	does(t, m, abort(0), commit(2), abort(1), begin(2), commit(2))
	var got [][2]int
	for _, txn := range m.Log() {
		got = append(got, [2]int{txn.Session, txn.Seq})
	}
	if want := [][2]int{{2, 0}, {0, 0}, {2, 1}, {0, 1}, {2, 2}, {1, 0}, {2, 3}}; !slices.Equal(got, want) {
		t.Errorf("%v; want %v", got, want)
	}
}

// P15.3: a transaction reads what it has left itself, whatever the flaw.
func TestOwnWrites(t *testing.T) {
	for _, flaw := range flaws {
		m := start(t, 2, flaw)
		puts(t, m, 1, "a", "old")
		puts(t, m, 1, "a", "older no more")
		does(t, m, begin(0), write(0, "a", "x"), begin(1), write(1, "a", "other"), write(1, "b", "other"))
		finds(t, m, 0, "a", "x")
		does(t, m, write(0, "a", ""), write(1, "a", "again"))
		finds(t, m, 0, "a", "")
		does(t, m, remove(0, "a"), write(0, "b", "z"), write(1, "a", "more"), remove(1, "b"))
		misses(t, m, 0, "a")
		finds(t, m, 0, "b", "z")
		commits(t, m, 1)
		misses(t, m, 0, "a")
		finds(t, m, 0, "b", "z")
		does(t, m, write(0, "a", "y"))
		finds(t, m, 0, "a", "y")
		want := []api.Op{wrote("a", "x"), found("a", "x"), wrote("a", ""), found("a", ""), removed("a"), wrote("b", "z"),
			missed("a"), found("b", "z"), missed("a"), found("b", "z"), wrote("a", "y"), found("a", "y")}
		does(t, m, abort(0))
		if got := m.Log()[3].Ops; !slices.Equal(got, want) {
			t.Errorf("flaw %d: %v; want %v", flaw, got, want)
		}
	}
}

// P15.3: a read of a key doesn't make it the transaction's own, and neither
// does a write of another key.
func TestReadsAreNotOwn(t *testing.T) {
	m := start(t, 2, machine.FlawLate)
	does(t, m, begin(0), write(0, "aa", "own"))
	misses(t, m, 0, "a")
	puts(t, m, 1, "a", "x")
	finds(t, m, 0, "a", "x")
	puts(t, m, 1, "a", "y")
	finds(t, m, 0, "a", "y")
	drops(t, m, 1, "a")
	misses(t, m, 0, "a")
	commits(t, m, 0)
}

// snapshots has four versions of "a", by the session 0; the sessions 1 to 5 have
// a transaction each, begun ahead of the first version, between two, behind the last.
func snapshots(t *testing.T, flaw int) *machine.Machine {
	t.Helper()
	m := start(t, 6, flaw)
	does(t, m, begin(1))
	puts(t, m, 0, "a", "v1")
	does(t, m, begin(2))
	puts(t, m, 0, "a", "v2")
	does(t, m, begin(3))
	drops(t, m, 0, "a")
	does(t, m, begin(4))
	puts(t, m, 0, "a", "")
	does(t, m, begin(5))
	return m
}

// P15.3: a snapshot is what was committed by the start: nothing, a version,
// a later one, a delete, an empty value.
func TestSnapshot(t *testing.T) {
	for _, flaw := range []int{machine.FlawNone, machine.FlawLost, machine.FlawDirty} {
		m := snapshots(t, flaw)
		for range 2 {
			misses(t, m, 1, "a")
			finds(t, m, 2, "a", "v1")
			finds(t, m, 3, "a", "v2")
			misses(t, m, 4, "a")
			finds(t, m, 5, "a", "")
			for session := 1; session < 6; session++ {
				misses(t, m, session, "b")
			}
			puts(t, m, 0, "a", "v5")
			puts(t, m, 0, "b", "w")
		}
	}
}

// P15.5: FlawLate reads what is committed last, at the time of each read.
func TestLate(t *testing.T) {
	m := snapshots(t, machine.FlawLate)
	for session := 1; session < 6; session++ {
		finds(t, m, session, "a", "")
		misses(t, m, session, "b")
	}
	puts(t, m, 0, "b", "w")
	drops(t, m, 0, "a")
	for session := 1; session < 6; session++ {
		misses(t, m, session, "a")
		finds(t, m, session, "b", "w")
	}
	// What isn't committed isn't seen, and the first committer wins.
	does(t, m, begin(0), write(0, "b", "dirty"), write(1, "b", "mine"))
	finds(t, m, 2, "b", "w")
	does(t, m, abort(0))
	finds(t, m, 2, "b", "w")
	fails(t, m, 1)
	holds(t, m, "b", "w")
}

// P15.5: FlawStale reads the version ahead of the snapshot's.
func TestStale(t *testing.T) {
	m := snapshots(t, machine.FlawStale)
	for range 2 {
		misses(t, m, 1, "a")
		misses(t, m, 2, "a")
		finds(t, m, 3, "a", "v1")
		finds(t, m, 4, "a", "v2")
		misses(t, m, 5, "a")
		puts(t, m, 0, "a", "v5")
		puts(t, m, 0, "b", "w")
	}
	does(t, m, begin(0))
	finds(t, m, 0, "a", "v5")
	finds(t, m, 0, "b", "w")
	does(t, m, write(0, "b", "z"), write(5, "a", "mine"))
	misses(t, m, 4, "b")
	finds(t, m, 0, "b", "z")
	commits(t, m, 0)
	fails(t, m, 5)
}

// P15.5: FlawStale takes deletes for versions as all others.
func TestStaleOfDelete(t *testing.T) {
	m := start(t, 2, machine.FlawStale)
	drops(t, m, 0, "a")
	does(t, m, begin(1))
	misses(t, m, 1, "a")
	does(t, m, abort(1))
	puts(t, m, 0, "a", "x")
	does(t, m, begin(1))
	misses(t, m, 1, "a")
	does(t, m, abort(1))
	drops(t, m, 0, "a")
	does(t, m, begin(1))
	finds(t, m, 1, "a", "x")
	lacks(t, m, "a")
}

// P15.5: FlawDirty reads the last write or delete of all other active
// transactions, whichever session it is of; else its snapshot.
func TestDirty(t *testing.T) {
	m := start(t, 4, machine.FlawDirty)
	puts(t, m, 0, "a", "old")
	does(t, m, begin(0), begin(1), begin(2), begin(3))
	finds(t, m, 1, "a", "old")
	does(t, m, write(0, "a", "x"))
	finds(t, m, 1, "a", "x")
	does(t, m, write(3, "a", "y"))
	finds(t, m, 1, "a", "y")
	does(t, m, write(0, "a", "z"), read(3, "a"), write(3, "b", "q"))
	finds(t, m, 1, "a", "z")
	does(t, m, remove(3, "a"))
	misses(t, m, 1, "a")
	finds(t, m, 1, "b", "q")
	does(t, m, write(2, "a", ""))
	finds(t, m, 1, "a", "")
	misses(t, m, 3, "a")
	finds(t, m, 0, "a", "z")
	// What an aborted one did isn't seen any more; what a committed one did
	// is in no snapshot of these.
	does(t, m, abort(2))
	misses(t, m, 1, "a")
	commits(t, m, 3)
	finds(t, m, 1, "a", "z")
	misses(t, m, 1, "b")
	lacks(t, m, "a")
	fails(t, m, 0)
	finds(t, m, 1, "a", "old")
	does(t, m, begin(0))
	misses(t, m, 0, "a")
	finds(t, m, 0, "b", "q")
}

// P15.4: the first committer wins, by writes and by deletes alike.
func TestFirstCommitterWins(t *testing.T) {
	for _, flaw := range flaws {
		for _, first := range []machine.Step{write(0, "a", "x"), remove(0, "a")} {
			for _, second := range []machine.Step{write(1, "a", "y"), remove(1, "a")} {
				m := start(t, 3, flaw)
				does(t, m, begin(0), begin(1), begin(2), first, second, write(1, "b", "w"), write(2, "c", "u"), read(2, "a"))
				commits(t, m, 0)
				want := machine.Answer{Status: api.Aborted}
				if flaw == machine.FlawLost {
					want.Status = api.Committed
				}
				tells(t, m, commit(1), want)
				commits(t, m, 2)
				if flaw == machine.FlawLost {
					holds(t, m, "b", "w")
				} else {
					lacks(t, m, "b")
				}
				holds(t, m, "c", "u")
			}
		}
	}
}

// P15.4: what was committed by the start is no conflict; an aborted one is none;
// one that commits behind the start is, though a later version lies above it.
func TestConflictTimes(t *testing.T) {
	m := start(t, 3, machine.FlawNone)
	does(t, m, begin(0), write(0, "a", "x"), begin(1), write(1, "a", "y"), abort(0))
	commits(t, m, 1)
	puts(t, m, 0, "a", "z")
	does(t, m, begin(1), write(1, "a", "w"))
	puts(t, m, 0, "a", "u")
	puts(t, m, 2, "a", "v")
	fails(t, m, 1)
	holds(t, m, "a", "v")
	// The key that conflicts is the last of several, and was read and deleted.
	does(t, m, begin(1), write(1, "b", "1"), write(1, "c", "2"), read(1, "a"), remove(1, "a"))
	puts(t, m, 0, "a", "t")
	fails(t, m, 1)
	lacks(t, m, "b")
	lacks(t, m, "c")
	holds(t, m, "a", "t")
	// A conflict of one that failed is none for the next.
	does(t, m, begin(1), write(1, "b", "1"))
	commits(t, m, 1)
	holds(t, m, "b", "1")
}

// P15.4: a transaction leaves one version a key, as its last operation left it.
func TestLastOperationCounts(t *testing.T) {
	for _, flaw := range []int{machine.FlawNone, machine.FlawStale} {
		m := start(t, 2, flaw)
		puts(t, m, 0, "a", "old")
		puts(t, m, 0, "d", "old")
		does(t, m, begin(0), write(0, "a", "1"), write(0, "b", "1"), write(0, "c", "1"), remove(0, "d"), write(0, "a", "2"),
			remove(0, "b"), write(0, "c", "1"), write(0, "d", "2"), write(0, "a", "3"), read(0, "a"), read(0, "b"))
		commits(t, m, 0)
		holds(t, m, "a", "3")
		lacks(t, m, "b")
		holds(t, m, "c", "1")
		holds(t, m, "d", "2")
		does(t, m, begin(1))
		if flaw == machine.FlawNone {
			finds(t, m, 1, "a", "3")
			misses(t, m, 1, "b")
			finds(t, m, 1, "c", "1")
			finds(t, m, 1, "d", "2")
		} else {
			finds(t, m, 1, "a", "old")
			misses(t, m, 1, "b")
			misses(t, m, 1, "c")
			finds(t, m, 1, "d", "old")
		}
	}
}

// P15.5: with FlawLost versions of lost updates lie above each other in commit
// order, and snapshots see them so.
func TestLost(t *testing.T) {
	m := start(t, 4, machine.FlawLost)
	does(t, m, begin(0), begin(1), begin(2), write(0, "a", "x"), write(1, "a", "y"), remove(2, "a"))
	commits(t, m, 2)
	lacks(t, m, "a")
	commits(t, m, 0)
	holds(t, m, "a", "x")
	does(t, m, begin(3))
	commits(t, m, 1)
	holds(t, m, "a", "y")
	finds(t, m, 3, "a", "x")
	does(t, m, write(3, "a", "z"), abort(3))
	holds(t, m, "a", "y")
	for i, txn := range m.Log() {
		if txn.Status != []int{1, 1, 1, 0}[i] {
			t.Errorf("%+v", txn)
		}
	}
}

// P15.6: Active goes by the session's own steps; Value by commits alone; the
// log has what is finished alone, by ends and not by starts.
func TestLooks(t *testing.T) {
	m := start(t, 2, machine.FlawNone)
	active := func(zero, one bool) {
		t.Helper()
		if m.Active(0) != zero || m.Active(1) != one || m.Active(-1) || m.Active(2) || m.Active(1<<32) {
			t.Errorf("active: %t %t", m.Active(0), m.Active(1))
		}
	}
	does(t, m, begin(1))
	active(false, true)
	does(t, m, begin(0), write(0, "a", "x"))
	active(true, true)
	lacks(t, m, "a")
	logs(t, m)
	does(t, m, commit(0))
	active(false, true)
	holds(t, m, "a", "x")
	lacks(t, m, "A")
	lacks(t, m, "a\x00")
	does(t, m, write(1, "b", "y"), begin(0), remove(0, "a"), abort(1))
	active(true, false)
	lacks(t, m, "b")
	holds(t, m, "a", "x")
	does(t, m, commit(0))
	active(false, false)
	lacks(t, m, "a")
	logs(t, m,
		api.Txn{Session: 0, Start: 2, End: 4, Invoke: 1, Return: 4, Status: api.Committed, Ops: []api.Op{wrote("a", "x")}},
		api.Txn{Session: 1, Start: 1, End: 8, Invoke: 0, Return: 8, Ops: []api.Op{wrote("b", "y")}},
		api.Txn{Session: 0, Seq: 1, Start: 6, End: 9, Invoke: 5, Return: 9, Status: api.Committed, Ops: []api.Op{removed("a")}})
}

// The rules of all layers: an answer is its own memory, spare room too.
func TestOwnMemory(t *testing.T) {
	m, twin := start(t, 2, machine.FlawNone), start(t, 2, machine.FlawNone)
	for range 5 {
		steps := []machine.Step{begin(0), write(0, "a", "x"), read(0, "a"), remove(0, "a"), begin(1), read(1, "a"), commit(0), commit(1)}
		does(t, m, steps...)
		does(t, twin, steps...)
		want := twin.Log()
		spoil(t, m.Log(), want)
		logs(t, m, want...)
	}
	puts(t, m, 0, "b", "y")
	puts(t, twin, 0, "b", "y")
	logs(t, m, twin.Log()...)
}

// spoil writes over all of a log, and looks whether two of its lists are one.
func spoil(t *testing.T, log, want []api.Txn) {
	t.Helper()
	for i := range log {
		spare := log[i].Ops[:cap(log[i].Ops)]
		for j := range spare {
			spare[j] = api.Op{Kind: 9, Key: "spoilt"}
		}
		sameLog(t, log[i+1:], want[i+1:])
	}
	whole := log[:cap(log)]
	for i := range whole {
		whole[i] = api.Txn{Session: 77}
	}
}

// The rules of all layers: machines know nothing of each other.
func TestTwoMachines(t *testing.T) {
	a, b := start(t, 1, machine.FlawDirty), start(t, 1, machine.FlawDirty)
	does(t, a, begin(0), write(0, "a", "x"))
	refuses(t, b, commit(0), api.ErrIdle)
	does(t, b, begin(0))
	misses(t, b, 0, "a")
	commits(t, a, 0)
	lacks(t, b, "a")
	if a.Now() != 3 || b.Now() != 2 || len(b.Log()) != 0 {
		t.Errorf("%d, %d, %v", a.Now(), b.Now(), b.Log())
	}
}

// P15.7: what is refused does nothing; what is active is aborted, in the order
// of the sessions.
func TestEmit(t *testing.T) {
	steps := []machine.Step{
		commit(0), begin(2), begin(2), begin(3), begin(-1), later(api.MaxGap+1, begin(0)), {}, begin(0), write(0, "", "x"),
		write(0, "a", longValue), write(0, "a", "x"), read(2, "a"), read(1, "a"), later(6, write(2, "b", "y")), begin(1), commit(1),
	}
	before := slices.Clone(steps)
	log, e := machine.Emit(3, machine.FlawNone, steps)
	if e != api.OK {
		t.Fatal(e)
	}
	sameLog(t, log, []api.Txn{
		{Session: 1, Start: 12, End: 13, Invoke: 11, Return: 13, Status: api.Committed},
		{Session: 0, Start: 2, End: 14, Invoke: 1, Return: 14, Ops: []api.Op{wrote("a", "x")}},
		{Session: 2, Start: 1, End: 15, Invoke: 0, Return: 15, Ops: []api.Op{missed("a"), wrote("b", "y")}},
	})
	if !slices.Equal(steps, before) {
		t.Error("the steps were changed")
	}
	for _, none := range [][]machine.Step{nil, {}, {commit(0), {Kind: 9}, begin(3)}} {
		if log, e := machine.Emit(3, machine.FlawNone, none); len(log) > 0 || e != api.OK {
			t.Errorf("%v, %d", log, e)
		}
	}
}

// P15.7: the flaw is the machine's.
func TestEmitFlaws(t *testing.T) {
	steps := []machine.Step{
		begin(0), write(0, "a", "x"), commit(0), begin(2), begin(0), write(0, "a", "y"), read(2, "a"), commit(0), read(2, "a"), write(2, "a", "z"), commit(2),
	}
	for flaw, want := range map[int][]api.Op{
		machine.FlawNone:  {found("a", "x"), found("a", "x")},
		machine.FlawLost:  {found("a", "x"), found("a", "x")},
		machine.FlawLate:  {found("a", "x"), found("a", "y")},
		machine.FlawStale: {missed("a"), missed("a")},
		machine.FlawDirty: {found("a", "y"), found("a", "x")},
	} {
		log, e := machine.Emit(3, flaw, steps)
		if e != api.OK || len(log) != 3 {
			t.Fatalf("flaw %d: %v, %d", flaw, log, e)
		}
		if got := log[2].Ops[:2]; !slices.Equal(got, want) {
			t.Errorf("flaw %d: %v; want %v", flaw, got, want)
		}
		if (log[2].Status == api.Committed) != (flaw == machine.FlawLost) {
			t.Errorf("flaw %d: status %d", flaw, log[2].Status)
		}
	}
}

// P15.2, P15.7: the greatest machine: all sessions, all transactions, all
// operations, the greatest gaps.
func TestGreatest(t *testing.T) {
	for _, flaw := range flaws {
		var steps []machine.Step
		for range api.MaxTxns/api.MaxSessions + 1 {
			for session := range api.MaxSessions {
				steps = append(steps, later(api.MaxGap, begin(session)))
			}
			for op := range api.MaxOps + 1 {
				for session := range api.MaxSessions {
					key := string([]byte{byte(session % 8), byte(op)})
					steps = append(steps, later(api.MaxGap, machine.Step{Kind: machine.StepRead + op%3, Session: session, Key: key, Value: "0123456789abcdef"}))
				}
			}
			for session := range api.MaxSessions {
				steps = append(steps, later(api.MaxGap, commit(session)))
			}
		}
		log, e := machine.Emit(api.MaxSessions, flaw, steps)
		if e != api.OK || len(log) != api.MaxTxns {
			t.Fatalf("flaw %d: %d transactions, %d", flaw, len(log), e)
		}
		last := log[len(log)-1]
		if want := api.MaxTxns * (api.MaxOps + 2) * (api.MaxGap + 1); last.End != want || last.Seq != api.MaxTxns/api.MaxSessions-1 {
			t.Errorf("flaw %d: the last is %+v; want the end %d", flaw, last, want)
		}
		for _, txn := range log {
			if e := record.Valid(txn); e != api.OK || len(txn.Ops) != api.MaxOps {
				t.Fatalf("flaw %d: %+v: %d", flaw, txn, e)
			}
		}
	}
}
