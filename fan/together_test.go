package fan_test

import (
	"runtime"
	"slices"
	"sync"
	"sync/atomic"
	"testing"
	"time"

	"proctor/api"
	"proctor/fan"
	"proctor/halt"
)

// await waits for a sign of another item; a test fails rather than hang.
func await(t *testing.T, what string, sign <-chan struct{}) {
	t.Helper()
	select {
	case <-sign:
	case <-time.After(20 * time.Second):
		t.Errorf("waited in vain for %s", what)
	}
}

func signs(n int) []chan struct{} {
	l := make([]chan struct{}, n)
	for i := range l {
		l[i] = make(chan struct{})
	}
	return l
}

func TestWorkersWorkAtOneTime(t *testing.T) {
	for workers := 1; workers <= api.MaxWorkers; workers++ {
		begun := signs(workers)
		r, n, e := fan.Each(nil, upTo(workers), workers, func(x int) (int, api.Errno) {
			close(begun[x])
			for _, other := range begun {
				await(t, "an item that should be with another worker", other)
			}
			return x, api.OK
		})
		gives(t, "Each", r, n, e, upTo(workers))
	}
}

// With so many workers, all places ahead of one that is begun were handed out,
// and no more of them than there are other workers can be in work still.
func TestItemsAreHandedOutOneByOne(t *testing.T) {
	for workers := 1; workers <= api.MaxWorkers; workers++ {
		var mutex sync.Mutex
		ended, open, most := 0, 0, 0
		fan.Each(nil, upTo(300), workers, func(x int) (int, api.Errno) {
			mutex.Lock()
			open++
			most = max(most, open)
			if ended < x-workers+1 {
				t.Errorf("%d workers: item %d was begun when only %d had ended", workers, x, ended)
			}
			mutex.Unlock()
			runtime.Gosched()
			mutex.Lock()
			open--
			ended++
			mutex.Unlock()
			return x, api.OK
		})
		if most > workers {
			t.Errorf("%d workers: %d items at one time", workers, most)
		}
	}
}

func TestResultsKeepTheOrderOfTheList(t *testing.T) {
	const n = api.MaxWorkers
	ended := signs(n + 1)
	close(ended[n])
	r, size, e := fan.Each(nil, upTo(n), n, func(x int) (int, api.Errno) {
		await(t, "the item behind", ended[x+1])
		close(ended[x])
		return 2 * x, api.OK
	})
	want := upTo(n)
	for i := range want {
		want[i] *= 2
	}
	gives(t, "ended from the last to the first", r, size, e, want)
}

func TestTheLeastPlaceThatFailedIsAnswered(t *testing.T) {
	const n = 6
	ended := signs(n + 1)
	close(ended[n])
	var begun sync.WaitGroup
	begun.Add(n)
	r, place, e := fan.Each(nil, upTo(n), n, func(x int) (int, api.Errno) {
		begun.Done()
		begun.Wait()
		await(t, "the item behind", ended[x+1])
		defer close(ended[x])
		if x == 1 {
			panic(x)
		}
		if x > 0 {
			return 0, api.Errno(100 + x)
		}
		return x, api.OK
	})
	fails(t, "failed from the last to the second", r, place, e, 1, api.ErrPanic)
}

func TestTheLeastPlaceThatFailedFirstStays(t *testing.T) {
	first := make(chan struct{})
	r, place, e := fan.Each(nil, upTo(2), 2, func(x int) (int, api.Errno) {
		if x == 0 {
			defer close(first)
			return 0, api.ErrKey
		}
		await(t, "the first item", first)
		time.Sleep(time.Millisecond)
		return 0, api.ErrSpan
	})
	fails(t, "failed in the order of the list", r, place, e, 0, api.ErrKey)
}

func TestAFailureCountsThoughABeatWasRefusedAheadOfIt(t *testing.T) {
	stop, e := halt.New(2)
	if e != api.OK {
		t.Fatal(e)
	}
	r, n, e := fan.Each(stop, upTo(4), 3, func(x int) (int, api.Errno) {
		for range 20000 {
			if stop.Stopped() {
				break
			}
			time.Sleep(time.Millisecond)
		}
		if !stop.Stopped() {
			t.Error("waited in vain for the refused beat")
		}
		if x == 1 {
			return 0, api.ErrKey
		}
		return x, api.OK
	})
	fails(t, "refused, then failed", r, n, e, 1, api.ErrKey)
}

func TestWhatWasHandedOutIsWorkedToItsEnd(t *testing.T) {
	for _, panics := range []bool{false, true} {
		const n = 5
		begun, failed := signs(n), make(chan struct{})
		var ended atomic.Int64
		r, place, e := fan.Each(nil, upTo(n), n, func(x int) (int, api.Errno) {
			close(begun[x])
			if x != 2 {
				await(t, "the failed item", failed)
				time.Sleep(5 * time.Millisecond)
				ended.Add(1)
				return x, api.OK
			}
			for _, other := range begun {
				await(t, "the other items", other)
			}
			defer close(failed)
			if panics {
				panic(x)
			}
			return 0, api.ErrKey
		})
		want := api.ErrKey
		if panics {
			want = api.ErrPanic
		}
		fails(t, "Each", r, place, e, 2, want)
		if ended.Load() != n-1 {
			t.Errorf("only %d items were ended ahead of the answer", ended.Load())
		}
	}
}

func TestARefusedBeatWaitsForWhatWasHandedOut(t *testing.T) {
	stop, e := halt.New(3)
	if e != api.OK {
		t.Fatal(e)
	}
	var ended atomic.Int64
	r, n, e := fan.Each(stop, upTo(9), 4, func(x int) (int, api.Errno) {
		time.Sleep(5 * time.Millisecond)
		ended.Add(1)
		return x, api.OK
	})
	fails(t, "refused", r, n, e, 3, api.ErrStopped)
	if ended.Load() != 3 {
		t.Errorf("%d items were ended ahead of the answer", ended.Load())
	}
}

func TestAWorkThatEndsItsGoroutine(t *testing.T) {
	for workers := 1; workers <= api.MaxWorkers; workers++ {
		r, n, e := fan.Each(nil, upTo(50), workers, func(x int) (int, api.Errno) {
			if x >= 3 {
				runtime.Goexit()
			}
			return x, api.OK
		})
		fails(t, "Goexit", r, n, e, 3, api.ErrPanic)
	}
}

func TestGoroutinesHaveEnded(t *testing.T) {
	before := runtime.NumGoroutine()
	for workers := 1; workers <= api.MaxWorkers; workers++ {
		for _, beats := range []int{0, 3, 1000} {
			fan.Each(stopOf(t, beats), upTo(10), workers, double)
			fan.Each(stopOf(t, beats), []int{1, 2, -3, 4, -5, 6}, workers, refusing)
			fan.Each(stopOf(t, beats), upTo(10), workers, func(x int) (int, api.Errno) { panic(x) })
		}
	}
	// A goroutine that has given its last sign is counted for a moment more.
	for range 1000 {
		if runtime.NumGoroutine() <= before {
			return
		}
		time.Sleep(time.Millisecond)
	}
	t.Errorf("%d goroutines, %d before", runtime.NumGoroutine(), before)
}

func TestEachWithinEach(t *testing.T) {
	stop := stopOf(t, 1000)
	sums, n, e := fan.Each(stop, upTo(10), 4, func(x int) (int, api.Errno) {
		r, _, e := fan.Each(stop, upTo(x), 3, double)
		sum := 0
		for _, y := range r {
			sum += y
		}
		return sum, e
	})
	want := make([]int, 10)
	for x := range want {
		want[x] = x * (x - 1)
	}
	gives(t, "sums", sums, n, e, want)
	if stop.Left() != 1000-10-45 {
		t.Errorf("%d beats are left", stop.Left())
	}
}

func TestOneStopForSeveralCalls(t *testing.T) {
	const calls, beats, size = 6, 100, 40
	stop := stopOf(t, beats)
	var worked, refused atomic.Int64
	var join sync.WaitGroup
	for range calls {
		join.Go(func() {
			r, n, e := fan.Each(stop, upTo(size), 3, func(x int) (int, api.Errno) {
				worked.Add(1)
				return x, api.OK
			})
			if e == api.OK {
				gives(t, "Each", r, n, e, upTo(size))
				return
			}
			refused.Add(1)
			if r != nil || e != api.ErrStopped || n >= size {
				t.Errorf("Each = %v, %d, %d", r, n, e)
			}
		})
	}
	join.Wait()
	if worked.Load() != beats || refused.Load() < calls-beats/size {
		t.Errorf("%d items, %d calls refused", worked.Load(), refused.Load())
	}
}

func TestItemsAreNotChanged(t *testing.T) {
	whole := upTo(64)
	items := whole[:32]
	for workers := 1; workers <= api.MaxWorkers; workers++ {
		fan.Each(nil, items, workers, refusing)
		fan.Each(stopOf(t, 5), items, workers, refusing)
	}
	if !slices.Equal(whole, upTo(64)) {
		t.Errorf("the items are now %v", whole)
	}
}
