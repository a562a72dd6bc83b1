package sweep

import (
	"testing"

	"proctor/api"
	"proctor/record"
	"proctor/rows"
)

// run takes the rows of a transaction that commits a key.
func run(t *testing.T, s *Sweep, place, start, end int) {
	t.Helper()
	body, _ := record.Encode(api.Txn{Start: start, End: end, Status: api.Committed, Ops: []api.Op{{Kind: api.OpWrite, Key: "a", Found: true}}})
	for _, r := range []rows.Row{
		{Kind: rows.RowStart, Time: start, Index: place},
		{Kind: rows.RowEnd, Time: end, Index: place, Body: string(body)},
	} {
		if list, e := s.Take(r); len(list) != 0 || e != api.OK {
			t.Fatalf("Take(%+v) = %v, %d", r, list, e)
		}
	}
}

// What can't be seen any more goes from the spans and the queue too, and of the
// last row no more is kept than its order needs.
func TestKept(t *testing.T) {
	s, _ := New(api.MaxState)
	for place := range api.MaxTxns - 1 {
		run(t, s, place, 2*place, 2*place+1)
		if n := s.writers.Count() + len(s.queue) + len(s.open); n != 0 {
			t.Fatalf("%d spans, %v queued, %v open", s.writers.Count(), s.queue, s.open)
		}
	}
	if s.last.Body != "" {
		t.Errorf("the body %q is kept", s.last.Body)
	}
	if n := s.versions.Count(); n != 1 {
		t.Errorf("%d versions", n)
	}
}

// Spans that an open transaction may run into stay as long as it is open.
func TestKeptForTheOldest(t *testing.T) {
	s, _ := New(api.MaxState)
	s.Take(rows.Row{Kind: rows.RowStart, Time: 50, Index: 0})
	for place := 1; place <= 9; place++ {
		run(t, s, place, 100*place, 100*place+1)
		if n := s.writers.Count(); n != place {
			t.Errorf("%d spans behind the oldest start; want %d", n, place)
		}
	}
	s.Take(rows.Row{Kind: rows.RowStart, Time: 950, Index: 10})
	body, _ := record.Encode(api.Txn{Start: 50, End: 960})
	if _, e := s.Take(rows.Row{Kind: rows.RowEnd, Time: 960, Index: 0, Body: string(body)}); e != api.OK {
		t.Fatalf("Take = %d", e)
	}
	if n := s.writers.Count(); n != 0 {
		t.Errorf("%d spans ahead of the oldest start", n)
	}
}
