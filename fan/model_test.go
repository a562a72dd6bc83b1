package fan_test

import (
	"runtime"
	"slices"
	"testing"

	"proctor/api"
	"proctor/fan"
)

// dice is a source of numbers that is the same in every run.
type dice uint64

func (d *dice) below(n int) int {
	*d = *d*6364136223846793005 + 1442695040888963407
	return int(uint64(*d) >> 33 % uint64(n))
}

// task is one item: how it ends, and how often its worker gives way ahead of that.
type task struct {
	err    api.Errno
	panics bool
	rests  int
	result int
}

func (k task) work() (int, api.Errno) {
	for range k.rests {
		runtime.Gosched()
	}
	if k.panics {
		panic(k)
	}
	return k.result, k.err
}

// oneByOne is what Each should answer: the work done item by item, by nobody else.
func oneByOne(beats int, tasks []task) ([]int, int, api.Errno) {
	var results []int
	for place, k := range tasks {
		if place >= beats {
			return nil, place, api.ErrStopped
		}
		if k.panics {
			return nil, place, api.ErrPanic
		}
		if k.err != api.OK {
			return nil, place, k.err
		}
		results = append(results, k.result)
	}
	return results, len(tasks), api.OK
}

func roll(d *dice, size, bad int) []task {
	tasks := make([]task, size)
	for i := range tasks {
		tasks[i] = task{rests: d.below(5), result: d.below(1000)}
		if d.below(100) >= bad {
			continue
		}
		tasks[i].panics = d.below(2) == 0
		tasks[i].err = api.Errno(d.below(300))
	}
	return tasks
}

func TestEachIsTheWorkOneByOne(t *testing.T) {
	d := dice(7)
	for range 4000 {
		tasks := roll(&d, d.below(40), d.below(4)*10)
		beats := d.below(60)
		workers := 1 + d.below(api.MaxWorkers)
		stop := stopOf(t, beats)
		r, n, e := fan.Each(stop, tasks, workers, task.work)
		wantR, wantN, wantE := oneByOne(beats, tasks)
		if !slices.Equal(r, wantR) || n != wantN || e != wantE {
			t.Fatalf("%d workers, %d beats, %v: %v, %d, %d; want %v, %d, %d", workers, beats, tasks, r, n, e, wantR, wantN, wantE)
		}
		if e == api.OK && stop.Left() != beats-len(tasks) {
			t.Fatalf("%d beats for %d items: %d left", beats, len(tasks), stop.Left())
		}
		if e == api.ErrStopped && n == beats && stop.Left() != 0 {
			t.Fatalf("refused at %d: %d left", n, stop.Left())
		}
		if e != api.OK && r != nil {
			t.Fatalf("beside %d: %v", e, r)
		}
	}
}
