package extsort_test

import (
	"bytes"
	"math"
	"slices"
	"strings"
	"testing"

	"proctor/api"
	"proctor/device"
	"proctor/extent"
	"proctor/extsort"
	"proctor/rows"
	"proctor/runs"
)

// ten is a row of ten bytes, which takes 11 bytes in a file.
func ten(time int) rows.Row { return rows.Row{Kind: rows.RowEnd, Time: time, Body: "abc"} }

// wrongRows lists rows that aren't right, each in another field.
func wrongRows() []rows.Row {
	return []rows.Row{
		{},
		{Kind: 4},
		{Kind: -1, Body: strings.Repeat("b", 1000)},
		{Kind: rows.RowEnd, Time: api.MaxTime + 1},
		{Kind: rows.RowEnd, Time: -1},
		{Kind: rows.RowEnd, Seq: api.MaxId + 1},
		{Kind: rows.RowEnd, Index: api.MaxTxns},
		{Kind: rows.RowEnd, From: math.MinInt},
		{Kind: rows.RowEnd, To: math.MaxInt},
		{Kind: rows.RowEnd, Body: strings.Repeat("b", api.MaxBody+1)},
	}
}

// ground is a device with blocks of 16 bytes, and a space for its scratch region.
func ground(t *testing.T, blocks int, faults ...device.Fault) (*device.Dev, *extent.Space) {
	t.Helper()
	d, e := device.New(device.Geometry{Block: 16, Scratch: blocks}, nil, nil, faults)
	if e != api.OK {
		t.Fatalf("device.New: %d", e)
	}
	s, e := extent.New(blocks)
	if e != api.OK {
		t.Fatalf("extent.New: %d", e)
	}
	return d, s
}

func made(t *testing.T, d *device.Dev, s *extent.Space, p extsort.Plan) *extsort.Sorter {
	t.Helper()
	x, e := extsort.New(d, s, p)
	if x == nil || e != api.OK {
		t.Fatalf("New(%+v) = %v, %d", p, x, e)
	}
	return x
}

func adds(t *testing.T, x *extsort.Sorter, list ...rows.Row) {
	t.Helper()
	for i, r := range list {
		if e := x.Add(r); e != api.OK {
			t.Fatalf("Add of row %d: %d", i, e)
		}
	}
}

func finishes(t *testing.T, x *extsort.Sorter) *extsort.Result {
	t.Helper()
	r, e := x.Finish()
	if r == nil || e != api.OK {
		t.Fatalf("Finish = %v, %d", r, e)
	}
	return r
}

// refuses asks a sorter that is done or broken for all that it can refuse.
func refuses(t *testing.T, x *extsort.Sorter, want api.Errno) {
	t.Helper()
	for range 2 {
		for _, r := range []rows.Row{ten(1), {}, {Kind: rows.RowEnd, Body: strings.Repeat("b", api.MaxBody)}} {
			if e := x.Add(r); e != want {
				t.Errorf("Add(%v): %d, want %d", r, e, want)
			}
		}
		if r, e := x.Finish(); r != nil || e != want {
			t.Errorf("Finish = %v, %d; want %d", r, e, want)
		}
	}
}

func gives(t *testing.T, r *extsort.Result, want ...rows.Row) {
	t.Helper()
	for i, w := range want {
		if a, ok, e := r.Next(); a != w || !ok || e != api.OK {
			t.Fatalf("row %d: %v, %v, %d; want %v", i, a, ok, e, w)
		}
	}
}

func ends(t *testing.T, r *extsort.Result) {
	t.Helper()
	for range 2 {
		if a, ok, e := r.Next(); a != (rows.Row{}) || ok || e != api.OK {
			t.Fatalf("the end: %v, %v, %d", a, ok, e)
		}
	}
}

func givesNot(t *testing.T, r *extsort.Result, want api.Errno) {
	t.Helper()
	for range 2 {
		if a, ok, e := r.Next(); a != (rows.Row{}) || ok || e != want {
			t.Errorf("Next = %v, %v, %d; want %d", a, ok, e, want)
		}
	}
}

func closes(t *testing.T, r *extsort.Result, want api.Errno) {
	t.Helper()
	if e := r.Close(); e != want {
		t.Errorf("Close: %d, want %d", e, want)
	}
}

func stats(t *testing.T, x *extsort.Sorter, want extsort.Stats) {
	t.Helper()
	if got := x.Stats(); got != want {
		t.Errorf("Stats %+v, want %+v", got, want)
	}
}

func left(t *testing.T, s *extent.Space, want int) {
	t.Helper()
	if got := s.Left(); got != want {
		t.Errorf("%d blocks are free, want %d", got, want)
	}
}

func counts(t *testing.T, d *device.Dev, reads, writes int) {
	t.Helper()
	if c := d.Counts(); c.Scratch != reads || c.Writes != writes || c.Input != 0 {
		t.Errorf("%+v, want %d reads and %d writes", c, reads, writes)
	}
}

func TestExamples(t *testing.T) {
	// 1.
	d, s := ground(t, 10)
	x := made(t, d, s, extsort.Plan{Order: rows.ByTime, Budget: 20, Fan: 2})
	adds(t, x, ten(5), ten(1), ten(4), ten(2), ten(3))
	r := finishes(t, x)
	stats(t, x, extsort.Stats{Rows: 5, Bytes: 50, Runs: 3, Passes: 2, Peak: 20, Blocks: 5})
	gives(t, r, ten(1), ten(2), ten(3), ten(4), ten(5))
	ends(t, r)
	// 2.
	for _, c := range [][3]int{{1, 2, 0}, {2, 2, 1}, {9, 8, 2}, {64, 8, 2}, {65, 8, 3}, {9, 1, 0}} {
		if p := extsort.Passes(c[0], c[1]); p != c[2] {
			t.Errorf("Passes(%d, %d) = %d, want %d", c[0], c[1], p, c[2])
		}
	}
	// 3.
	d, s = ground(t, 0)
	x = made(t, d, s, extsort.Plan{Order: rows.ByTime, Budget: 20, Fan: 2})
	r = finishes(t, x)
	stats(t, x, extsort.Stats{})
	ends(t, r)
	closes(t, r, api.OK)
	givesNot(t, r, api.ErrClosed)
	closes(t, r, api.ErrClosed)
	refuses(t, x, api.ErrDone)
	counts(t, d, 0, 0)
}

// P12.1: what a plan is refused for, the first that applies; device and space
// aren't looked at then.
func TestNewRefuses(t *testing.T) {
	orders := []int{0, -1, 3, 9, 257, 258, 1<<32 + 1, math.MinInt, math.MaxInt}
	budgets := []int{0, -1, api.MaxBudget + 1, math.MinInt, math.MaxInt, 1<<32 + 1}
	fans := []int{1, 0, -1, -2, api.MaxFan + 1, 256 + 2, 1<<32 + 2, math.MinInt, math.MaxInt}
	refused := func(p extsort.Plan, want api.Errno) {
		t.Helper()
		if x, e := extsort.New(nil, nil, p); x != nil || e != want {
			t.Errorf("New(%+v) = %v, %d; want %d", p, x, e, want)
		}
	}
	for _, order := range orders {
		refused(extsort.Plan{Order: order, Budget: 20, Fan: 2}, api.ErrOrder)
		refused(extsort.Plan{Order: order, Budget: 0, Fan: 0}, api.ErrOrder)
	}
	for _, budget := range budgets {
		refused(extsort.Plan{Order: rows.ByTime, Budget: budget, Fan: 2}, api.ErrBudget)
		refused(extsort.Plan{Order: rows.BySession, Budget: budget, Fan: 1}, api.ErrBudget)
	}
	for _, fan := range fans {
		refused(extsort.Plan{Order: rows.ByTime, Budget: 20, Fan: fan}, api.ErrFan)
		refused(extsort.Plan{Order: rows.BySession, Budget: api.MaxBudget, Fan: fan}, api.ErrFan)
	}
}

// P12.1: the edges of a plan are taken, and nothing is done yet.
func TestNew(t *testing.T) {
	for _, order := range []int{rows.ByTime, rows.BySession} {
		for _, budget := range []int{1, 2, api.MaxBudget} {
			for _, fan := range []int{2, 3, api.MaxFan} {
				d, s := ground(t, 4)
				x := made(t, d, s, extsort.Plan{Order: order, Budget: budget, Fan: fan})
				stats(t, x, extsort.Stats{})
				counts(t, d, 0, 0)
				left(t, s, 4)
			}
		}
	}
}

// P12.2: what isn't right or too great changes nothing.
func TestAddRefuses(t *testing.T) {
	d, s := ground(t, 10)
	x := made(t, d, s, extsort.Plan{Order: rows.ByTime, Budget: 20, Fan: 2})
	refused := func(r rows.Row, want api.Errno) {
		t.Helper()
		before, c, holes := x.Stats(), d.Counts(), s.Holes()
		if e := x.Add(r); e != want {
			t.Errorf("Add(%v): %d, want %d", r, e, want)
		}
		stats(t, x, before)
		if d.Counts() != c || !slices.Equal(s.Holes(), holes) {
			t.Errorf("Add(%v): something was done", r)
		}
	}
	huge := rows.Row{Kind: rows.RowEnd, Body: strings.Repeat("b", 14)} // 21 bytes
	for n := range 5 {
		for _, r := range wrongRows() {
			refused(r, api.ErrRow)
		}
		refused(huge, api.ErrHuge)
		adds(t, x, ten(9-n))
	}
	r := finishes(t, x)
	stats(t, x, extsort.Stats{Rows: 5, Bytes: 50, Runs: 3, Passes: 2, Peak: 20, Blocks: 5})
	gives(t, r, ten(5), ten(6), ten(7), ten(8), ten(9))
	ends(t, r)
}

// P12.2: with the least budgets no row fits, or one alone does.
func TestLeastBudgets(t *testing.T) {
	least := rows.Row{Kind: rows.RowStart} // 7 bytes
	for _, budget := range []int{1, 6} {
		d, s := ground(t, 10)
		x := made(t, d, s, extsort.Plan{Order: rows.ByTime, Budget: budget, Fan: 2})
		if e := x.Add(least); e != api.ErrHuge {
			t.Errorf("a budget of %d: %d", budget, e)
		}
		ends(t, finishes(t, x))
		counts(t, d, 0, 0)
	}
	d, s := ground(t, 10)
	x := made(t, d, s, extsort.Plan{Order: rows.ByTime, Budget: 7, Fan: 2})
	adds(t, x, least, least, least)
	r := finishes(t, x)
	stats(t, x, extsort.Stats{Rows: 3, Bytes: 21, Runs: 3, Passes: 2, Peak: 7, Blocks: 3})
	gives(t, r, least, least, least)
	ends(t, r)
}

// P12.2: a run is written when a row doesn't fit any more, ahead of that row
// and no earlier; what a run's file holds is sorted, each row behind its size.
func TestRunsAreWritten(t *testing.T) {
	d, s := ground(t, 10)
	x := made(t, d, s, extsort.Plan{Order: rows.ByTime, Budget: 20, Fan: 2})
	adds(t, x, ten(2), ten(1))
	counts(t, d, 0, 0)
	left(t, s, 10)
	stats(t, x, extsort.Stats{Rows: 2, Bytes: 20, Peak: 20})
	adds(t, x, rows.Row{Kind: rows.RowStart, Time: 9})
	counts(t, d, 0, 2)
	left(t, s, 8)
	stats(t, x, extsort.Stats{Rows: 3, Bytes: 27, Runs: 1, Peak: 20, Blocks: 2})
	adds(t, x, rows.Row{Kind: rows.RowStart, Time: 7, Body: "abcdef"})
	counts(t, d, 0, 2)
	adds(t, x, rows.Row{Kind: rows.RowStart, Time: 8})
	stats(t, x, extsort.Stats{Rows: 5, Bytes: 47, Runs: 2, Peak: 20, Blocks: 4})
	counts(t, d, 0, 4)
	want := []byte{
		10, 1, 1, 0, 0, 0, 0, 3, 97, 98, 99, 10, 1, 2, 0, 0,
		0, 0, 3, 97, 98, 99, 0, 0, 0, 0, 0, 0, 0, 0, 0, 0,
		13, 2, 7, 0, 0, 0, 0, 6, 97, 98, 99, 100, 101, 102, 7, 2,
		9, 0, 0, 0, 0, 0, 0, 0, 0, 0, 0, 0, 0, 0, 0, 0,
	}
	if got := d.Image()[:64]; !bytes.Equal(got, want) {
		t.Errorf("the runs' files are %v, want %v", got, want)
	}
}

// P12.2: the size of a row in a file is a number that may have two bytes.
func TestLongRows(t *testing.T) {
	d, s := ground(t, 400)
	x := made(t, d, s, extsort.Plan{Order: rows.ByTime, Budget: 600, Fan: 3})
	var want []rows.Row
	for n := range 7 {
		want = append(want, rows.Row{Kind: rows.RowEnd, Time: n, Body: strings.Repeat("b", []int{512, 120, 121, 119, 512, 0, 300}[n])})
	}
	great := rows.Row{Kind: rows.RowSession, Time: api.MaxTime, Seq: api.MaxId, Index: api.MaxTxns - 1,
		From: api.MaxTime, To: api.MaxTime, Body: strings.Repeat("\xff", api.MaxBody)}
	adds(t, x, great)
	for _, r := range slices.Backward(want) {
		adds(t, x, r)
	}
	r := finishes(t, x)
	gives(t, r, want...)
	gives(t, r, great)
	ends(t, r)
}

// P12.3: with one run there is nothing to merge; nothing is read ahead of the
// first row, and a block no earlier than its rows.
func TestOneRun(t *testing.T) {
	d, s := ground(t, 10)
	x := made(t, d, s, extsort.Plan{Order: rows.ByTime, Budget: 40, Fan: 2})
	adds(t, x, ten(4), ten(2), ten(3), ten(1))
	counts(t, d, 0, 0)
	r := finishes(t, x)
	stats(t, x, extsort.Stats{Rows: 4, Bytes: 40, Runs: 1, Peak: 40, Blocks: 3})
	counts(t, d, 0, 3)
	left(t, s, 7)
	gives(t, r, ten(1))
	counts(t, d, 1, 3)
	gives(t, r, ten(2), ten(3), ten(4))
	ends(t, r)
	counts(t, d, 3, 3)
	left(t, s, 7)
	closes(t, r, api.OK)
	left(t, s, 10)
}

// P12.2, P12.3: once a result is out the sorter is done, whatever becomes of
// the result, and its counts stay.
func TestDone(t *testing.T) {
	d, s := ground(t, 10)
	x := made(t, d, s, extsort.Plan{Order: rows.ByTime, Budget: 20, Fan: 2})
	adds(t, x, ten(3), ten(2), ten(1))
	r := finishes(t, x)
	want := extsort.Stats{Rows: 3, Bytes: 30, Runs: 2, Passes: 1, Peak: 20, Blocks: 3}
	stats(t, x, want)
	refuses(t, x, api.ErrDone)
	gives(t, r, ten(1))
	refuses(t, x, api.ErrDone)
	closes(t, r, api.OK)
	refuses(t, x, api.ErrDone)
	stats(t, x, want)
	left(t, s, 10)
}

// Chapter 12, How it goes: a group of one run stays as it is, so it is neither
// read nor written; the blocks of merged runs come back.
func TestGroupOfOne(t *testing.T) {
	d, s := ground(t, 10)
	x := made(t, d, s, extsort.Plan{Order: rows.ByTime, Budget: 20, Fan: 2})
	adds(t, x, ten(5), ten(1), ten(4), ten(2), ten(3))
	r := finishes(t, x)
	// The runs have 2, 2 and 1 blocks, behind the first pass 3 and 1, then 4.
	counts(t, d, 4+4, 5+3+4)
	left(t, s, 6)
	gives(t, r, ten(1), ten(2), ten(3), ten(4), ten(5))
	counts(t, d, 4+4+4, 5+3+4)

	d, s = ground(t, 8)
	x = made(t, d, s, extsort.Plan{Order: rows.ByTime, Budget: 10, Fan: 3})
	adds(t, x, ten(4), ten(3), ten(2), ten(1))
	r = finishes(t, x)
	// Four runs of a block: behind the first pass 3 blocks and 1, then 3.
	counts(t, d, 3+4, 4+3+3)
	left(t, s, 5)
	gives(t, r, ten(1), ten(2), ten(3), ten(4))
	ends(t, r)
}

// P12.3: as many runs as the fan are merged at once; one more needs two passes.
func TestWholeFan(t *testing.T) {
	for _, fan := range []int{2, 3, 8, api.MaxFan} {
		for n := fan - 1; n <= fan+2; n++ {
			d, s := ground(t, 2*n)
			x := made(t, d, s, extsort.Plan{Order: rows.BySession, Budget: 10, Fan: fan})
			for i := range n {
				adds(t, x, ten(n-i))
			}
			r := finishes(t, x)
			passes := 1
			if n > fan {
				passes = 2
			}
			if n == 1 {
				passes = 0
			}
			stats(t, x, extsort.Stats{Rows: n, Bytes: 10 * n, Runs: n, Passes: passes, Peak: 10, Blocks: n})
			for i := range n {
				gives(t, r, ten(i+1))
			}
			ends(t, r)
		}
	}
}

// tagged lists rows whose times are few, and which tell by From in which order
// they were added.
func tagged(n int) []rows.Row {
	var list []rows.Row
	for i := range n {
		list = append(list, rows.Row{Kind: rows.RowEnd + i*7%3, Time: i * 5 % 4, Seq: i * 11 % 3, Index: i % 2, From: i, Body: strings.Repeat("x", i%6)})
	}
	return list
}

// P12.5: rows that the order doesn't tell apart come out as they were added,
// through every number of runs and passes.
func TestAlikeRowsStayInOrder(t *testing.T) {
	list := tagged(150)
	for _, order := range []int{rows.ByTime, rows.BySession} {
		want, _ := runs.Sort(order, list)
		for _, budget := range []int{13, 20, 50, 200, 900, 5000} {
			for _, fan := range []int{2, 3, 5, 64} {
				d, s := ground(t, 400)
				x := made(t, d, s, extsort.Plan{Order: order, Budget: budget, Fan: fan})
				adds(t, x, list...)
				r := finishes(t, x)
				gives(t, r, want...)
				ends(t, r)
				closes(t, r, api.OK)
				left(t, s, 400)
			}
		}
	}
}

// P12.4: the nth write fails, for every n: in a run, in the last run, in a
// pass. All blocks come back, those of others stay, and the counts are those
// of the rows added and the runs written whole.
func TestWriteFails(t *testing.T) {
	whole := []int{2, 4, 5} // how many writes the first one, two, three runs take
	for nth := 1; nth <= 12; nth++ {
		for _, c := range []struct {
			fault device.Fault
			want  api.Errno
		}{
			{device.Fault{Kind: device.FaultWrite, Nth: nth}, api.ErrWrite},
			{device.Fault{Kind: device.FaultCrash, Nth: nth, Keep: 5}, api.ErrDown},
		} {
			d, s := ground(t, 12, c.fault)
			s.Take(extent.Extent{From: 1, Count: 2})
			x := made(t, d, s, extsort.Plan{Order: rows.ByTime, Budget: 20, Fan: 2})
			want := extsort.Stats{Peak: 20}
			var e api.Errno
			for n := range 5 {
				if e = x.Add(ten(n)); e != api.OK {
					break
				}
				want.Rows++
				want.Bytes += 10
			}
			if broke := nth <= 4; broke != (e != api.OK) {
				t.Errorf("write %d fails: an Add answers %d", nth, e)
			}
			if e == api.OK {
				var r *extsort.Result
				if r, e = x.Finish(); r != nil {
					t.Errorf("write %d fails: there is a result", nth)
				}
			}
			if e != c.want {
				t.Errorf("write %d fails: %d, want %d", nth, e, c.want)
			}
			for i, n := range whole {
				if nth > n {
					want.Runs, want.Blocks = i+1, n
				}
			}
			stats(t, x, want)
			refuses(t, x, c.want)
			stats(t, x, want)
			if holes := s.Holes(); !slices.Equal(holes, []extent.Extent{{From: 0, Count: 1}, {From: 3, Count: 9}}) {
				t.Errorf("write %d fails: the holes are %v", nth, holes)
			}
		}
	}
}

// P12.4, P12.5: a read fails, of every block: in a pass the sorter is broken,
// behind that the result.
func TestReadFails(t *testing.T) {
	inPass, behind := 0, 0
	for block := range 10 {
		for nth := 1; nth <= 3; nth++ {
			d, s := ground(t, 10, device.Fault{Kind: device.FaultScratch, Block: block, Nth: nth})
			x := made(t, d, s, extsort.Plan{Order: rows.ByTime, Budget: 20, Fan: 2})
			adds(t, x, ten(5), ten(1), ten(4), ten(2), ten(3))
			r, e := x.Finish()
			if e != api.OK {
				inPass++
				if r != nil || e != api.ErrRead {
					t.Errorf("block %d, %d: Finish = %v, %d", block, nth, r, e)
				}
				refuses(t, x, api.ErrRead)
				stats(t, x, extsort.Stats{Rows: 5, Bytes: 50, Runs: 3, Peak: 20, Blocks: 5})
				left(t, s, 10)
				continue
			}
			e = api.OK
			for n := 1; n <= 5 && e == api.OK; n++ {
				var a rows.Row
				var ok bool
				a, ok, e = r.Next()
				if e == api.OK && (!ok || a != ten(n)) {
					t.Errorf("block %d, %d: row %d is %v, %v", block, nth, n, a, ok)
				}
			}
			if e != api.OK {
				behind++
				givesNot(t, r, api.ErrRead)
			}
			stats(t, x, extsort.Stats{Rows: 5, Bytes: 50, Runs: 3, Passes: 2, Peak: 20, Blocks: 5})
			left(t, s, 6)
			closes(t, r, api.OK)
			left(t, s, 10)
		}
	}
	if inPass != 8 || behind != 4 {
		t.Errorf("%d reads failed in a pass, %d behind it", inPass, behind)
	}
}

// P12.5: a broken result answers its error, closed or not; its blocks come back
// by Close.
func TestBrokenResult(t *testing.T) {
	d, s := ground(t, 10, device.Fault{Kind: device.FaultScratch, Block: 1, Nth: 1})
	x := made(t, d, s, extsort.Plan{Order: rows.ByTime, Budget: 100, Fan: 2})
	adds(t, x, ten(1), ten(2), ten(3))
	r := finishes(t, x)
	gives(t, r, ten(1))
	givesNot(t, r, api.ErrRead)
	counts(t, d, 2, 3)
	left(t, s, 7)
	closes(t, r, api.OK)
	left(t, s, 10)
	givesNot(t, r, api.ErrRead)
	closes(t, r, api.ErrClosed)
	left(t, s, 10)
	refuses(t, x, api.ErrDone)
}

// P12.5: the power goes while a result is read.
func TestDownResult(t *testing.T) {
	d, s := ground(t, 10, device.Fault{Kind: device.FaultCrash, Nth: 4})
	x := made(t, d, s, extsort.Plan{Order: rows.ByTime, Budget: 100, Fan: 2})
	adds(t, x, ten(1), ten(2), ten(3))
	r := finishes(t, x)
	gives(t, r, ten(1))
	if e := d.WriteScratch(9, make([]byte, 16)); e != api.ErrDown {
		t.Fatalf("no crash: %d", e)
	}
	givesNot(t, r, api.ErrDown)
	closes(t, r, api.OK)
	givesNot(t, r, api.ErrDown)
	left(t, s, 10)
}

// P12.5: a closed result gives no row, and gives its blocks back once alone.
func TestClose(t *testing.T) {
	d, s := ground(t, 10)
	x := made(t, d, s, extsort.Plan{Order: rows.ByTime, Budget: 20, Fan: 2})
	adds(t, x, ten(3), ten(2), ten(1))
	r := finishes(t, x)
	gives(t, r, ten(1))
	closes(t, r, api.OK)
	left(t, s, 10)
	if got, e := s.Alloc(10); e != api.OK {
		t.Fatalf("Alloc: %v, %d", got, e)
	}
	c := d.Counts()
	givesNot(t, r, api.ErrClosed)
	closes(t, r, api.ErrClosed)
	left(t, s, 0)
	if d.Counts() != c {
		t.Error("a closed result reads")
	}
}

// P12.4: where too little is free the sorter is broken, in an Add or in Finish,
// and gives all back; with 2V free it never is.
func TestNoSpace(t *testing.T) {
	list := tagged(60)
	plan := extsort.Plan{Order: rows.ByTime, Budget: 30, Fan: 2}
	d, s := ground(t, 1000)
	x := made(t, d, s, plan)
	adds(t, x, list...)
	finishes(t, x)
	want := x.Stats()
	inAdd, inFinish := 0, 0
	for free := range 2*want.Blocks + 3 {
		d, s := ground(t, 1000)
		// Every second block is used: room comes one by one.
		for b := range 1000 {
			if b%2 == 0 || b >= 2*free {
				s.Take(extent.Extent{From: b, Count: 1})
			}
		}
		x := made(t, d, s, plan)
		e := api.OK
		for _, r := range list {
			if e = x.Add(r); e != api.OK {
				inAdd++
				break
			}
		}
		if e == api.OK {
			if _, e = x.Finish(); e != api.OK {
				inFinish++
			}
		}
		if e == api.OK {
			stats(t, x, want)
			continue
		}
		if e != api.ErrNoSpace || free >= 2*want.Blocks {
			t.Errorf("%d free of V %d: %d", free, want.Blocks, e)
		}
		refuses(t, x, api.ErrNoSpace)
		left(t, s, free)
		if got := x.Stats(); got.Passes != 0 || got.Blocks > free {
			t.Errorf("%d free: %+v", free, got)
		}
	}
	if inAdd == 0 || inFinish == 0 {
		t.Errorf("no space in %d Adds, %d Finishes", inAdd, inFinish)
	}
}

// P12.4: a sorter holds its runs alone while rows are added, and its result one
// file.
func TestBlocksHeld(t *testing.T) {
	d, s := ground(t, 1000)
	x := made(t, d, s, extsort.Plan{Order: rows.ByTime, Budget: 30, Fan: 2})
	for _, r := range tagged(60) {
		adds(t, x, r)
		left(t, s, 1000-x.Stats().Blocks)
	}
	r := finishes(t, x)
	all := x.Stats().Bytes + x.Stats().Rows // each row's size takes a byte
	left(t, s, 1000-(all+15)/16)
	closes(t, r, api.OK)
	left(t, s, 1000)
}

// P12.6: reads and writes of the scratch region stay within (Passes + 1) V.
func TestReadsAndWrites(t *testing.T) {
	list := tagged(200)
	for _, budget := range []int{13, 40, 100, 700, 4000} {
		for _, fan := range []int{2, 3, 4, 7, 64} {
			d, s := ground(t, 1000)
			x := made(t, d, s, extsort.Plan{Order: rows.BySession, Budget: budget, Fan: fan})
			adds(t, x, list...)
			r := finishes(t, x)
			for range list {
				r.Next()
			}
			ends(t, r)
			got := x.Stats()
			most := (got.Passes + 1) * got.Blocks
			if c := d.Counts(); c.Scratch > most || c.Writes > most || c.Input > 0 {
				t.Errorf("budget %d, fan %d: %+v, %+v", budget, fan, got, c)
			}
			if got.Passes != extsort.Passes(got.Runs, fan) || got.Peak > budget || got.Rows != 200 {
				t.Errorf("budget %d, fan %d: %+v", budget, fan, got)
			}
		}
	}
}

// P12.1: several sorters and results use one device and space at one time; one
// that breaks gives back no block of another.
func TestSeveralSorters(t *testing.T) {
	d, s := ground(t, 100)
	list := tagged(30)
	byTime := made(t, d, s, extsort.Plan{Order: rows.ByTime, Budget: 30, Fan: 2})
	bySession := made(t, d, s, extsort.Plan{Order: rows.BySession, Budget: 50, Fan: 3})
	for _, r := range list {
		adds(t, byTime, r)
		adds(t, bySession, r)
	}
	first := finishes(t, byTime)
	wantFirst, _ := runs.Sort(rows.ByTime, list)
	wantSecond, _ := runs.Sort(rows.BySession, list)
	gives(t, first, wantFirst[0])
	second := finishes(t, bySession)
	free := s.Left()
	greedy := made(t, d, s, extsort.Plan{Order: rows.ByTime, Budget: 20, Fan: 2})
	for n := 0; ; n++ {
		if e := greedy.Add(ten(n)); e != api.OK {
			refuses(t, greedy, api.ErrNoSpace)
			break
		}
	}
	left(t, s, free)
	for i := range list {
		if i > 0 {
			gives(t, first, wantFirst[i])
		}
		gives(t, second, wantSecond[i])
	}
	ends(t, first)
	ends(t, second)
	closes(t, second, api.OK)
	closes(t, first, api.OK)
	left(t, s, 100)
}

// P1: what somebody else has written into a run's blocks is no row; the sorter
// or result is broken, and ends.
func TestSpoiledBlocks(t *testing.T) {
	spoils := [][]byte{
		bytes.Repeat([]byte{0xff}, 16),
		bytes.Repeat([]byte{0x80}, 16),
		bytes.Repeat([]byte{0}, 16),
		{0x80, 0x80, 0x80, 0x80, 1, 0, 0, 0, 0, 0, 0, 0, 0, 0, 0, 0},
		{0x81, 0x80, 4, 1, 0, 0, 0, 0, 0, 0, 0, 0, 0, 0, 0, 0}, // 65537
		{200, 1, 1, 0, 0, 0, 0, 0, 0, 0, 0, 0, 0, 0, 0, 0},
		{7, 4, 0, 0, 0, 0, 0, 0, 7, 4, 0, 0, 0, 0, 0, 0},
		{8, 1, 0, 0, 0, 0, 0, 0, 0, 8, 1, 0, 0, 0, 0, 0},
	}
	for _, p := range spoils {
		d, s := ground(t, 10)
		x := made(t, d, s, extsort.Plan{Order: rows.ByTime, Budget: 20, Fan: 2})
		adds(t, x, ten(2), ten(1), ten(3))
		d.WriteScratch(0, p)
		if r, e := x.Finish(); r != nil || e != api.ErrRow {
			t.Errorf("%v: Finish = %v, %d", p, r, e)
		}
		refuses(t, x, api.ErrRow)
		left(t, s, 10)

		x = made(t, d, s, extsort.Plan{Order: rows.ByTime, Budget: 20, Fan: 2})
		adds(t, x, ten(1))
		r := finishes(t, x)
		d.WriteScratch(0, p)
		givesNot(t, r, api.ErrRow)
		closes(t, r, api.OK)
		left(t, s, 10)
	}
}

// P12.4: a space that is greater than the scratch region gives a block that the
// device hasn't.
func TestSpaceBeyondDevice(t *testing.T) {
	d, _ := ground(t, 1)
	s, _ := extent.New(10)
	x := made(t, d, s, extsort.Plan{Order: rows.ByTime, Budget: 20, Fan: 2})
	adds(t, x, ten(2), ten(1))
	if r, e := x.Finish(); r != nil || e != api.ErrBlock {
		t.Errorf("Finish = %v, %d", r, e)
	}
	refuses(t, x, api.ErrBlock)
	left(t, s, 10)
}

// P12.7.
func TestPasses(t *testing.T) {
	for _, fan := range []int{math.MinInt, -2, -1, 0, 1, api.MaxFan + 1, 258, 1<<32 + 2, math.MaxInt} {
		for _, n := range []int{0, 1, 2, 9, math.MaxInt} {
			if p := extsort.Passes(n, fan); p != 0 {
				t.Errorf("Passes(%d, %d) = %d", n, fan, p)
			}
		}
	}
	for fan := 2; fan <= api.MaxFan; fan++ {
		for _, n := range []int{math.MinInt, -1, 0, 1} {
			if p := extsort.Passes(n, fan); p != 0 {
				t.Errorf("Passes(%d, %d) = %d", n, fan, p)
			}
		}
		for n := 2; n < 1200; n++ {
			want, power := 0, 1
			for power < n {
				power *= fan
				want++
			}
			if p := extsort.Passes(n, fan); p != want {
				t.Errorf("Passes(%d, %d) = %d, want %d", n, fan, p, want)
			}
		}
	}
	for _, c := range [][3]int{
		{math.MaxInt, 2, 63}, {1 << 62, 2, 62}, {1<<62 + 1, 2, 63}, {1<<62 - 1, 2, 62},
		{math.MaxInt, 64, 11}, {1 << 60, 64, 10}, {1<<60 + 1, 64, 11}, {math.MaxInt, 63, 11},
	} {
		if p := extsort.Passes(c[0], c[1]); p != c[2] {
			t.Errorf("Passes(%d, %d) = %d, want %d", c[0], c[1], p, c[2])
		}
	}
}
