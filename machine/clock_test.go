package machine

import (
	"testing"

	"proctor/api"
)

// near gives a machine whose session 0 is idle, 1 active, 2 full of operations,
// with some time left: no steps that a machine takes come so far.
func near(t *testing.T, left int) *Machine {
	t.Helper()
	m, _ := New(3, FlawNone)
	m.Do(Step{Kind: StepBegin, Session: 1})
	m.Do(Step{Kind: StepBegin, Session: 2})
	for range api.MaxOps {
		m.Do(Step{Kind: StepWrite, Session: 2, Key: "a"})
	}
	m.clock = api.MaxTime - left
	return m
}

func asks(t *testing.T, m *Machine, s Step, want api.Errno) {
	t.Helper()
	before := m.clock
	if want == api.OK {
		before += 1 + s.Gap
	}
	if a, e := m.Do(s); e != want || e != api.OK && a != (Answer{}) || m.clock != before {
		t.Errorf("Do(%+v) = %+v, %d; want %d; the clock %d", s, a, e, want, m.clock)
	}
}

// P15.2: the clock comes up to MaxTime and not past it.
func TestClockEnds(t *testing.T) {
	for _, gap := range []int{0, 1, 500, api.MaxGap} {
		for _, s := range []Step{
			{Kind: StepBegin}, {Kind: StepRead, Session: 1, Key: "a"}, {Kind: StepWrite, Session: 1, Key: "a"},
			{Kind: StepDelete, Session: 1, Key: "a"}, {Kind: StepCommit, Session: 1}, {Kind: StepAbort, Session: 2},
		} {
			s.Gap = gap
			asks(t, near(t, gap), s, api.ErrClock)
			m := near(t, gap+1)
			asks(t, m, s, api.OK)
			if m.Now() != api.MaxTime {
				t.Errorf("Now = %d", m.Now())
			}
			asks(t, m, Step{Kind: StepAbort, Session: 1 + s.Session%2}, api.ErrClock)
		}
	}
}

// P15.2: the clock is asked last.
func TestClockIsLast(t *testing.T) {
	m := near(t, 0)
	asks(t, m, Step{Kind: StepWrite, Session: 1}, api.ErrKey)
	asks(t, m, Step{Kind: StepBegin, Session: 1}, api.ErrActive)
	asks(t, m, Step{Kind: StepCommit}, api.ErrIdle)
	asks(t, m, Step{Kind: StepRead, Session: 2, Key: "a"}, api.ErrOps)
	asks(t, m, Step{Kind: StepBegin}, api.ErrClock)
	m.begun = api.MaxTxns
	asks(t, m, Step{Kind: StepBegin}, api.ErrTxns)
	if !m.Active(1) || !m.Active(2) || m.Active(0) || len(m.Log()) != 0 {
		t.Error("a refused step has changed something")
	}
}

// P15.4: versions of the last time of all can be committed, and are seen.
func TestLastTime(t *testing.T) {
	m := near(t, 3)
	asks(t, m, Step{Kind: StepWrite, Session: 1, Key: "b", Value: "x"}, api.OK)
	asks(t, m, Step{Kind: StepCommit, Session: 1, Gap: 1}, api.OK)
	if v, ok := m.Value("b"); v != "x" || !ok {
		t.Errorf("Value = %q, %t", v, ok)
	}
	if log := m.Log(); len(log) != 1 || log[0].End != api.MaxTime || log[0].Return != api.MaxTime {
		t.Errorf("%+v", log)
	}
}
