package viol_test

import (
	"slices"
	"testing"

	"proctor/api"
	"proctor/machine"
	"proctor/record"
	"proctor/rows"
	"proctor/rules"
	"proctor/sweep"
	"proctor/viol"
)

// dice is a source of numbers that is the same in every run.
type dice uint64

func (d *dice) below(n int) int {
	*d = *d*6364136223846793005 + 1442695040888963407
	return int(uint64(*d) >> 33 % uint64(n))
}

// viol is mostly right; small numbers make many alike in the order.
func (d *dice) viol() api.Viol {
	v := api.Viol{Kind: 1 + d.below(3), Time: d.below(4), Txn: d.below(2), Op: d.below(3) - 1, Witness: d.below(500), From: d.below(9), To: d.below(9)}
	if d.below(2) == 0 {
		v.Want, v.Expected = true, "x"
	}
	switch d.below(60) {
	case 0:
		v.Kind = d.below(14) - 1
	case 1:
		v.Time = api.MaxTime + d.below(2)
	case 2:
		v.Txn = api.MaxTxns - d.below(2)
	case 3:
		v.Op = api.MaxOps - d.below(2)
	case 4:
		v.Key = "12345678" + []string{"", "9"}[d.below(2)]
	case 5:
		v.Want = false
	case 6:
		v.Observed = []string{"", "y"}[d.below(2)]
	}
	return v
}

func modelValid(v api.Viol) bool {
	switch {
	case v.Kind < 1, v.Kind > 10, v.Time < 0, v.From < 0, v.To < 0, v.Txn < 0, v.Witness < -1, v.Op < -1:
		return false
	case v.Time > 1<<40, v.From > 1<<40, v.To > 1<<40, v.Txn > 4095, v.Witness > 4095, v.Op > 15:
		return false
	case len(v.Key) > 8, len(v.Expected) > 16, len(v.Observed) > 16:
		return false
	}
	return (v.Want || v.Expected == "") && (v.Got || v.Observed == "")
}

func modelCompare(a, b api.Viol) int {
	return slices.Compare([]int{a.Time, a.Kind, a.Txn, a.Op}, []int{b.Time, b.Kind, b.Txn, b.Op})
}

// modelSort puts each behind all that it doesn't come before.
func modelSort(list []api.Viol) []api.Viol {
	var sorted []api.Viol
	for _, v := range list {
		at := len(sorted)
		for at > 0 && modelCompare(v, sorted[at-1]) < 0 {
			at--
		}
		sorted = slices.Insert(sorted, at, v)
	}
	return sorted
}

// P18.1 and P18.2: Valid, Compare, Sort and Tally answer as the model.
func TestModelLists(t *testing.T) {
	d := dice(18)
	orders, rights := map[int]int{}, map[bool]int{}
	for range 2000 {
		var list []api.Viol
		var counts [11]int
		for range d.below(40) {
			v := d.viol()
			list = append(list, v)
			valid(t, v, modelValid(v))
			rights[viol.Valid(v)]++
			compared(t, list[0], v, modelCompare(list[0], v))
			orders[viol.Compare(list[0], v)]++
			if v.Kind < 0 || v.Kind > 10 {
				counts[0]++
			} else {
				counts[v.Kind]++
			}
		}
		sorted(t, list, modelSort(list)...)
		tallied(t, list, counts)
	}
	if orders[-1] < 1000 || orders[0] < 1000 || orders[1] < 1000 || rights[true] < 1000 || rights[false] < 1000 {
		t.Errorf("orders %v, right %v", orders, rights)
	}
}

// P18.3: a top answers as one that keeps all that were put.
func TestModelTop(t *testing.T) {
	d := dice(183)
	errors := map[api.Errno]int{}
	for range 1000 {
		limit := d.below(12)
		top := newTop(t, limit)
		var all []api.Viol
		for range d.below(60) {
			v := d.viol()
			e := top.Put(v)
			if (e == api.OK) != modelValid(v) || e != api.OK && e != api.ErrViol {
				t.Fatalf("Put(%+v) = %d", v, e)
			}
			errors[e]++
			if e == api.OK {
				all = append(all, v)
			}
			if d.below(4) == 0 {
				has(t, top, len(all), first(modelSort(all), limit)...)
			}
		}
		has(t, top, len(all), first(modelSort(all), limit)...)
	}
	if errors[api.OK] < 1000 || errors[api.ErrViol] < 1000 {
		t.Errorf("errors: %v", errors)
	}
}

func first(list []api.Viol, limit int) []api.Viol { return list[:min(limit, len(list))] }

// emitted gives a log of a flawed machine, with its records in some order and
// some of them bent, so that they break the other rules too.
func emitted(t *testing.T, d *dice, flaw int) []api.Txn {
	t.Helper()
	var steps []machine.Step
	for range 300 {
		kinds := []int{1, 1, 1, 2, 2, 2, 3, 3, 4, 5, 6}
		steps = append(steps, machine.Step{Kind: kinds[d.below(len(kinds))], Session: d.below(5), Gap: d.below(3), Key: "a", Value: []string{"x", ""}[d.below(2)]})
	}
	log, e := machine.Emit(5, flaw, steps)
	if e != api.OK || len(log) == 0 {
		t.Fatalf("Emit = %v, %d", log, e)
	}
	for i := range log {
		j := d.below(i + 1)
		log[i], log[j] = log[j], log[i]
	}
	for i := range log {
		x := &log[i]
		switch d.below(20) {
		case 0:
			x.Start = x.End + d.below(2)
		case 1:
			x.Return = max(0, x.Invoke-1)
		case 2:
			x.Seq = max(0, x.Seq-1)
		case 3, 6, 7, 8:
			x.End = log[d.below(len(log))].End
		case 4:
			x.Start = max(0, x.Start-9)
		case 5:
			for j := range x.Ops {
				if x.Ops[j].Kind == api.OpRead {
					x.Ops[j].Found, x.Ops[j].Value = true, "never"
				}
			}
		}
	}
	return log
}

// told gives all violations of a log, by the layers below.
func told(t *testing.T, log []api.Txn) []api.Viol {
	t.Helper()
	var list []api.Viol
	var sessions, events []rows.Row
	take := func(more []api.Viol, e api.Errno) {
		if e != api.OK {
			t.Fatalf("error %d", e)
		}
		list = append(list, more...)
	}
	for place, txn := range log {
		if e := record.Valid(txn); e != api.OK {
			t.Fatalf("%+v: %d", txn, e)
		}
		take(rules.Shape(place, txn, 0))
		all, _ := rules.Rows(place, txn)
		sessions, events = append(sessions, all[0]), append(events, all[1:]...)
	}
	slices.SortFunc(sessions, func(a, b rows.Row) int { return rows.Compare(rows.BySession, a, b) })
	slices.SortFunc(events, func(a, b rows.Row) int { return rows.Compare(rows.ByTime, a, b) })
	w, s := rules.NewWalk(), newSweep(t)
	for _, r := range sessions {
		take(w.Take(r))
	}
	for _, r := range events {
		take(s.Take(r))
	}
	return list
}

func newSweep(t *testing.T) *sweep.Sweep {
	t.Helper()
	s, e := sweep.New(api.MaxState)
	if e != api.OK {
		t.Fatalf("sweep.New = %d", e)
	}
	return s
}

// What the layers below tell is right, of all kinds, and a top takes it.
func TestToldBelow(t *testing.T) {
	d := dice(181)
	var counts [11]int
	for round := range 100 {
		list := told(t, emitted(t, &d, machine.FlawLost+round%4))
		top := newTop(t, 10)
		puts(t, top, list...)
		has(t, top, len(list), first(modelSort(list), 10)...)
		for kind, n := range viol.Tally(list) {
			counts[kind] += n
		}
	}
	for kind, n := range counts {
		if kind == 0 && n != 0 || kind > 0 && n < 10 {
			t.Errorf("of kind %d: %d (%v)", kind, n, counts)
		}
	}
}
