package extsort_test

import (
	"slices"
	"strings"
	"testing"

	"proctor/api"
	"proctor/device"
	"proctor/extent"
	"proctor/extsort"
	"proctor/rows"
	"proctor/runs"
)

// dice is a source of numbers that is the same in every run.
type dice uint64

func (d *dice) below(n int) int {
	*d = *d*6364136223846793005 + 1442695040888963407
	return int(uint64(*d) >> 33 % uint64(n))
}

// row is right but for one in 30, and seldom too great for a small budget.
func (d *dice) row(tag int) rows.Row {
	r := rows.Row{Kind: 1 + d.below(3), Time: d.below(5), Seq: d.below(3), Index: d.below(3), From: tag, To: d.below(200)}
	r.Body = strings.Repeat("b", d.below(1+d.below(20)))
	if d.below(30) == 0 {
		r.Body = strings.Repeat("c", 100+d.below(400))
	}
	if d.below(30) == 0 {
		r.Kind = 0
	}
	return r
}

// plain is a sorter as the document's words go, but that it holds all rows: it
// tells the runs, and how many of their blocks are written.
type plain struct {
	plan  extsort.Plan
	block int
	all   []rows.Row // that were added
	run   int        // the bytes of rows in the run that is begun
	file  int        // the bytes that it takes in its file
	stats extsort.Stats
}

func (x *plain) fileSize(r rows.Row) int {
	size := rows.Size(r)
	if size > 127 {
		return size + 2
	}
	return size + 1
}

// refuses tells what keeps a row from being added, and whether a run must be
// written first.
func (x *plain) refuses(r rows.Row) (e api.Errno, spills bool) {
	size := rows.Size(r)
	if size == 0 {
		return api.ErrRow, false
	}
	if size > x.plan.Budget {
		return api.ErrHuge, false
	}
	return api.OK, x.run+size > x.plan.Budget
}

// blocks is how many the run that is begun takes.
func (x *plain) blocks() int { return (x.file + x.block - 1) / x.block }

// spill counts the run that is begun as written whole.
func (x *plain) spill() {
	x.stats.Runs++
	x.stats.Blocks += x.blocks()
	x.run, x.file = 0, 0
}

func (x *plain) add(r rows.Row) {
	x.all = append(x.all, r)
	x.run += rows.Size(r)
	x.file += x.fileSize(r)
	x.stats.Rows++
	x.stats.Bytes += rows.Size(r)
	x.stats.Peak = max(x.stats.Peak, x.run)
}

// world is a sorter on a device with at most one fault, and the plain one.
type world struct {
	d     *device.Dev
	s     *extent.Space
	used  []extent.Extent // by others
	fault device.Fault
	free  int
	x     *extsort.Sorter
	plain plain
	seen  map[string]int
}

func newWorld(t *testing.T, roll *dice, seen map[string]int) *world {
	t.Helper()
	w := &world{seen: seen, plain: plain{block: 16 + roll.below(40)}}
	w.plain.plan = extsort.Plan{Order: 1 + roll.below(2), Budget: 20 + roll.below(1+roll.below(600)), Fan: 2 + roll.below(1+roll.below(9))}
	scratch := []int{1000, 200, 50, 10, 0}[roll.below(5)]
	var faults []device.Fault
	if roll.below(2) > 0 && scratch > 0 {
		w.fault = device.Fault{Kind: device.FaultScratch + roll.below(3), Nth: 1 + roll.below(1+roll.below(120))}
		if w.fault.Kind == device.FaultScratch {
			w.fault.Block, w.fault.Nth = roll.below(min(scratch, 1+roll.below(40))), 1+roll.below(3)
		}
		faults = append(faults, w.fault)
	}
	var e api.Errno
	if w.d, e = device.New(device.Geometry{Block: w.plain.block, Scratch: scratch}, nil, nil, faults); e != api.OK {
		t.Fatalf("device.New: %d", e)
	}
	w.s, _ = extent.New(scratch)
	for b := range scratch {
		if x := (extent.Extent{From: b, Count: 1}); roll.below(7) == 0 && w.s.Take(x) == api.OK {
			w.used = append(w.used, x)
		}
	}
	w.free = w.s.Left()
	w.x = made(t, w.d, w.s, w.plain.plan)
	return w
}

// writeFails tells by which error, if by one, the run that is begun can't be written.
func (w *world) writeFails() api.Errno {
	before, need := w.plain.stats.Blocks, w.plain.blocks()
	nth := w.fault.Nth - before // of the run's writes is struck
	strikes := w.fault.Kind >= device.FaultWrite && nth >= 1 && nth <= need
	room := w.free - before
	if need > room && (!strikes || nth > room) {
		return api.ErrNoSpace
	}
	if !strikes {
		return api.OK
	}
	if w.fault.Kind == device.FaultWrite {
		return api.ErrWrite
	}
	return api.ErrDown
}

// broken looks at a sorter that has answered an error, and ends the world.
func (w *world) broken(t *testing.T, e api.Errno, where string) {
	t.Helper()
	w.seen[where]++
	refuses(t, w.x, e)
	stats(t, w.x, w.plain.stats)
	w.allBack(t)
}

func (w *world) allBack(t *testing.T) {
	t.Helper()
	left(t, w.s, w.free)
	for _, x := range w.used {
		if e := w.s.Take(x); e != api.ErrUsed {
			t.Fatalf("block %d isn't its user's any more", x.From)
		}
	}
}

// add adds a row to both, and tells whether the sorter goes on.
func (w *world) add(t *testing.T, r rows.Row) bool {
	t.Helper()
	want, spills := w.plain.refuses(r)
	if spills {
		want = w.writeFails()
	}
	if e := w.x.Add(r); e != want {
		t.Fatalf("Add(%v): %d, want %d", r, e, want)
	}
	if spills && want != api.OK {
		w.broken(t, want, "an Add breaks")
		return false
	}
	if want == api.OK {
		if spills {
			w.plain.spill()
		}
		w.plain.add(r)
	} else {
		w.seen["a row is refused"]++
	}
	stats(t, w.x, w.plain.stats)
	left(t, w.s, w.free-w.plain.stats.Blocks)
	return true
}

func (w *world) finish(t *testing.T) {
	t.Helper()
	r, e := w.x.Finish()
	if w.plain.run > 0 {
		if want := w.writeFails(); want != api.OK {
			if r != nil || e != want {
				t.Fatalf("Finish = %v, %d; want %d", r, e, want)
			}
			w.broken(t, want, "the last run breaks")
			return
		}
		w.plain.spill()
	}
	if e != api.OK {
		w.passFails(t, r, e)
		return
	}
	w.plain.stats.Passes = extsort.Passes(w.plain.stats.Runs, w.plain.plan.Fan)
	stats(t, w.x, w.plain.stats)
	refuses(t, w.x, api.ErrDone)
	w.read(t, r)
}

// passFails looks at a Finish that was broken in a pass: there was a reason.
func (w *world) passFails(t *testing.T, r *extsort.Result, e api.Errno) {
	t.Helper()
	v := w.plain.stats.Blocks
	struck := w.d.Counts().Struck > 0
	reasons := map[api.Errno]bool{
		api.ErrRead:    struck && w.fault.Kind == device.FaultScratch,
		api.ErrWrite:   struck && w.fault.Kind == device.FaultWrite && w.fault.Nth > v,
		api.ErrDown:    struck && w.fault.Kind == device.FaultCrash && w.fault.Nth > v,
		api.ErrNoSpace: w.free < 2*v,
	}
	if r != nil || !reasons[e] || w.plain.stats.Runs < 2 {
		t.Fatalf("Finish = %v, %d without a reason: V %d, %d free, %+v", r, e, v, w.free, w.fault)
	}
	w.broken(t, e, "a pass breaks")
}

// read reads the result, and closes it somewhere.
func (w *world) read(t *testing.T, r *extsort.Result) {
	t.Helper()
	want, _ := runs.Sort(w.plain.plan.Order, w.plain.all)
	for i, row := range want {
		got, ok, e := r.Next()
		if e == api.ErrRead && w.fault.Kind == device.FaultScratch && w.d.Counts().Struck == 1 {
			w.seen["a result breaks"]++
			givesNot(t, r, e)
			closes(t, r, api.OK)
			givesNot(t, r, e)
			closes(t, r, api.ErrClosed)
			w.allBack(t)
			return
		}
		if got != row || !ok || e != api.OK {
			t.Fatalf("row %d: %v, %v, %d; want %v", i, got, ok, e, row)
		}
	}
	ends(t, r)
	w.seen["all is read"]++
	if w.plain.stats.Passes > 2 {
		w.seen["many passes"]++
	}
	most := (w.plain.stats.Passes + 1) * w.plain.stats.Blocks
	if c := w.d.Counts(); c.Scratch > most || c.Writes > most || c.Struck > 0 {
		t.Fatalf("%+v, of at most %d", c, most)
	}
	closes(t, r, api.OK)
	givesNot(t, r, api.ErrClosed)
	closes(t, r, api.ErrClosed)
	w.allBack(t)
}

// P12.1 to P12.6 held against a plain sorter.
func TestModel(t *testing.T) {
	roll := dice(12)
	seen := map[string]int{}
	for range 15000 {
		w := newWorld(t, &roll, seen)
		goes := true
		for tag := range roll.below(1 + roll.below(150)) {
			if goes = w.add(t, roll.row(tag)); !goes {
				break
			}
		}
		if goes {
			w.finish(t)
		}
	}
	for _, what := range []string{"an Add breaks", "a row is refused", "the last run breaks", "a pass breaks", "a result breaks", "all is read", "many passes"} {
		if seen[what] < 100 {
			t.Errorf("%s: seen %d times only", what, seen[what])
		}
	}
}

// P12.4, P12.5: several sorters and results on one space, step by step in any
// order, hold no block of one another and give the rows of a sort in memory.
func TestManyAtOnce(t *testing.T) {
	roll := dice(112)
	for range 150 {
		d, _ := device.New(device.Geometry{Block: 16 + roll.below(20), Scratch: api.MaxScratch}, nil, nil, nil)
		s, _ := extent.New(api.MaxScratch)
		live := make([]*one, 4)
		for i := range live {
			p := extsort.Plan{Order: 1 + roll.below(2), Budget: 30 + roll.below(100), Fan: 2 + roll.below(4)}
			live[i] = &one{plan: p, x: made(t, d, s, p)}
		}
		for len(live) > 0 {
			i := roll.below(len(live))
			if !live[i].step(t, &roll) {
				live = slices.Delete(live, i, i+1)
			}
		}
		left(t, s, api.MaxScratch)
	}
}

// one is a sorter, or its result, and what is to come out of it.
type one struct {
	plan extsort.Plan
	x    *extsort.Sorter
	r    *extsort.Result
	list []rows.Row
}

// step does one thing, and tells whether there is more to do.
func (o *one) step(t *testing.T, roll *dice) bool {
	t.Helper()
	switch {
	case o.r == nil && roll.below(40) > 0:
		r := roll.row(len(o.list))
		r.Kind, r.Body = 1+r.Kind%3, r.Body[:min(len(r.Body), 9)]
		adds(t, o.x, r)
		o.list = append(o.list, r)
	case o.r == nil:
		o.r = finishes(t, o.x)
		o.list, _ = runs.Sort(o.plan.Order, o.list)
	case len(o.list) > 0 && roll.below(40) > 0:
		gives(t, o.r, o.list[0])
		o.list = o.list[1:]
	default:
		if len(o.list) == 0 {
			ends(t, o.r)
		}
		closes(t, o.r, api.OK)
		return false
	}
	return true
}
