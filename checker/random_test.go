package checker_test

import (
	"testing"

	"proctor/adya"
	"proctor/api"
	"proctor/checker"
	"proctor/device"
	"proctor/halt"
	"proctor/logfile"
	"proctor/machine"
)

func (d *dice) op() api.Op {
	op := api.Op{Kind: 1 + d.below(3), Key: []string{"a", "b", "\x00"}[d.below(3)]}
	if op.Kind == api.OpWrite || op.Kind == api.OpRead && d.below(2) == 0 {
		op.Found, op.Value = true, []string{"", "x", "sixteen bytes ..", "y"}[d.below(4)]
	}
	return op
}

// txn gives a transaction, a few of which aren't sound; few times make many meet.
func (d *dice) txn(times int) api.Txn {
	start := d.below(times)
	t := api.Txn{
		Session: d.below(5), Seq: d.below(9), Start: start, End: max(0, start+d.below(12)-1),
		Status: min(1, d.below(3)),
	}
	t.Invoke, t.Return = max(0, t.Start-d.below(3)+d.below(3)/2), max(0, t.End+d.below(3)-d.below(3)/2)
	for range d.below(4) {
		t.Ops = append(t.Ops, d.op())
	}
	return t
}

// log gives a log by chance, or one of a machine, a few fields of which are bent.
func (d *dice) log() []api.Txn {
	if d.below(3) == 0 {
		var list []api.Txn
		times := 2 + d.below(60)
		for range d.below(30) {
			list = append(list, d.txn(times))
		}
		return list
	}
	list, _ := machine.Emit(3, d.below(2)*d.below(5), d.steps(d.below(100)))
	list = d.shuffle(list)
	for range d.below(3) {
		if len(list) > 0 {
			d.bend(&list[d.below(len(list))])
		}
	}
	return list
}

// steps gives steps of a machine of three sessions.
func (d *dice) steps(n int) []machine.Step {
	kinds := []int{
		machine.StepBegin, machine.StepBegin, machine.StepRead, machine.StepRead, machine.StepWrite,
		machine.StepWrite, machine.StepDelete, machine.StepCommit, machine.StepCommit, machine.StepAbort,
	}
	var list []machine.Step
	for range n {
		list = append(list, machine.Step{
			Kind: kinds[d.below(len(kinds))], Session: d.below(3), Gap: d.below(3),
			Key: []string{"a", "b"}[d.below(2)], Value: []string{"", "x", "y"}[d.below(3)],
		})
	}
	return list
}

func (d *dice) bend(t *api.Txn) {
	field := []*int{&t.Start, &t.End, &t.Invoke, &t.Return, &t.Seq, &t.Session}[d.below(6)]
	*field = max(0, *field+d.below(3)-1)
	if d.below(4) == 0 {
		t.Status = 1 - t.Status
	}
}

func (d *dice) config() api.Config {
	return api.Config{
		Budget: api.MinBudget + d.below(2)*d.below(400), Fan: 2 + d.below(4),
		State: []int{api.MaxState, api.MaxState, api.MaxState, d.below(30)}[d.below(4)],
		Eps:   d.below(2) * d.below(4), Limit: []int{api.MaxList, d.below(5)}[d.below(2)],
	}
}

// input gives a log's bytes, now and then spoiled.
func (d *dice) input(t *testing.T, list []api.Txn) []byte {
	input := bytesOf(t, list)
	switch d.below(8) {
	case 0:
		input = input[:d.below(len(input)+1)]
	case 1:
		input[d.below(len(input))] = byte(d.below(256))
	case 2:
		input = append(input, byte(d.below(2)))
	}
	return input
}

// P24.1 to P24.5 at logs and configs by chance, on devices with just as much
// room as is enough: the outcome, the usage, the reads and writes, the beats.
func TestModel(t *testing.T) {
	d := dice(1)
	kinds := map[int]int{}
	for range 4000 {
		list, c := d.log(), d.config()
		input := d.input(t, list)
		if read, _, e := logfile.Decode(input); e == api.OK {
			list = read // a byte that is spoiled may still be that of a log
		}
		want, beats := outcome(c, input)
		kinds[want.Kind]++
		block := []int{16, 17, 100, 1024}[d.below(4)]
		used := usage(c, list, block)
		on := dev(t, device.Geometry{Block: block, Scratch: room(c, used)}, input)
		o, u := checker.Trace(c, on)
		is(t, "Trace", o, want)
		if o.Kind == api.OutAccept || o.Kind == api.OutReject {
			traffic(t, on, u)
			whole(t, list, want, c, beats)
		} else {
			used = checker.Usage{}
		}
		if u != used {
			t.Errorf("%+v, want %+v", u, used)
		}
		is(t, "Run", checker.Run(c, on), want)
		for range 3 {
			n := d.below(beats + 3)
			s := stop(t, n)
			o := checker.RunUntil(c, on, s)
			if n >= beats {
				is(t, "beats", o, want)
			} else {
				is(t, "too few beats", o, api.Outcome{Kind: api.OutCancelled})
			}
			if s.Left() != max(0, n-beats) || (s.Cause() == halt.CauseBeats) != (n < beats) {
				t.Errorf("%d beats, of which %d are asked: %d left", n, beats, s.Left())
			}
		}
	}
	for _, kind := range []int{api.OutMalformed, api.OutState, api.OutAccept, api.OutReject} {
		if kinds[kind] < 100 {
			t.Errorf("%d outcomes of kind %d", kinds[kind], kind)
		}
	}
}

// whole holds the outcome of a whole check against Judge, Beats and P3.
func whole(t *testing.T, list []api.Txn, want api.Outcome, c api.Config, beats int) {
	t.Helper()
	o, place, e := checker.Judge(c, list)
	if is(t, "Judge", o, want); place != 0 || e != api.OK {
		t.Errorf("Judge: %d, %d", place, e)
	}
	if n := checker.Beats(list); n != beats {
		t.Errorf("Beats %d, want %d", n, beats)
	}
	if run := isRun(list, c.Eps); run != (o.Kind == api.OutAccept) {
		t.Errorf("a run: %v, but %+v", run, o)
	}
	if o.Kind == api.OutAccept {
		if phenomena, e := adya.Phenomena(list); len(phenomena) != 0 || e != api.OK {
			t.Errorf("phenomena %v, %d", phenomena, e)
		}
	}
}

// traffic holds what a device has done for a whole check against its usage.
func traffic(t *testing.T, d *device.Dev, u checker.Usage) {
	t.Helper()
	c := d.Counts()
	most := (u.Events.Passes+1)*u.Events.Blocks + (u.Sessions.Passes+1)*u.Sessions.Blocks
	if c.Input != d.Blocks() || c.Scratch > most || c.Writes > most || c.Struck != 0 {
		t.Errorf("%+v, %d blocks of input, at most %d of scratch", c, d.Blocks(), most)
	}
}

// P24.2 and P24.3: with several faults the outcome is the one without, or that of
// a fault of the script, if one has struck; the peaks keep to the budget.
func TestFaultsByChance(t *testing.T) {
	d := dice(2)
	struck := 0
	for range 3000 {
		list, c := d.log(), d.config()
		for range d.below(30) {
			list = append(list, d.txn(80))
		}
		input := d.input(t, list)
		var faults []device.Fault
		named := map[api.Errno]int{}
		for range 1 + d.below(3) {
			f := device.Fault{Kind: 1 + d.below(4), Block: d.below(20), Nth: 1 + d.below(2), Keep: d.below(17)}
			if f.Kind >= device.FaultWrite {
				f.Nth = 1 + d.below(200)
			}
			faults = append(faults, f)
			named[[]api.Errno{0, api.ErrRead, api.ErrRead, api.ErrWrite, api.ErrDown}[f.Kind]]++
		}
		g := device.Geometry{Block: 16, Scratch: room(c, usage(c, list, 16))}
		on := dev(t, g, input, faults...)
		want, _ := outcome(c, input)
		o, u := checker.Trace(c, on)
		if u.Events.Peak+u.Sessions.Peak > c.Budget {
			t.Errorf("%+v is above %d", u, c.Budget)
		}
		if on.Counts().Struck == 0 {
			is(t, "none struck", o, want)
			continue
		}
		struck++
		switch o.Kind {
		case api.OutIO:
			if is(t, "io", o, failed(o.Code)); named[o.Code] == 0 || o.Code == api.ErrDown {
				t.Errorf("%+v of %+v", o, faults)
			}
		default:
			if is(t, "crash", o, api.Outcome{Kind: api.OutCrash}); named[api.ErrDown] == 0 || !on.Down() {
				t.Errorf("%+v of %+v", o, faults)
			}
		}
	}
	if struck < 500 {
		t.Errorf("%d struck", struck)
	}
}

// P3 at all logs of two small transactions: it is accepted just if it is a run.
func TestAllPairs(t *testing.T) {
	ops := [][]api.Op{
		nil,
		{{Kind: api.OpRead, Key: "a"}},
		{{Kind: api.OpRead, Key: "a", Found: true, Value: "x"}},
		{{Kind: api.OpWrite, Key: "a", Found: true, Value: "x"}},
		{{Kind: api.OpDelete, Key: "a"}, {Kind: api.OpRead, Key: "a"}},
	}
	var all []api.Txn
	for start := range 4 {
		for end := range 4 {
			for status := range 2 {
				for _, list := range ops {
					all = append(all, api.Txn{Start: start, End: end, Invoke: start, Return: end, Status: status, Ops: list})
				}
			}
		}
	}
	c := api.Config{Budget: api.MinBudget, Fan: 2, State: api.MaxState}
	accepted := 0
	for _, t1 := range all {
		for _, t2 := range all {
			t2.Seq = 1
			for session := range 2 {
				t2.Session = session
				list := []api.Txn{t1, t2}
				o, _, e := checker.Judge(c, list)
				if run := isRun(list, 0); e != api.OK || run != (o.Kind == api.OutAccept) {
					t.Fatalf("%+v: a run: %v, but %+v, %d", list, run, o, e)
				}
				accepted += o.Kind - api.OutReject + 1
			}
		}
	}
}
