package fan_test

import (
	"errors"
	"math"
	"slices"
	"testing"

	"proctor/api"
	"proctor/fan"
	"proctor/halt"
)

func stopOf(t *testing.T, beats int) *halt.Stop {
	t.Helper()
	s, e := halt.New(beats)
	if e != api.OK {
		t.Fatalf("New(%d): %d", beats, e)
	}
	return s
}

func double(x int) (int, api.Errno) { return 2 * x, api.OK }

// refusing doubles, but refuses numbers below 0 with a result that is to be dropped.
func refusing(x int) (int, api.Errno) {
	if x < 0 {
		return x, api.ErrKey
	}
	return 2 * x, api.OK
}

func upTo(n int) []int {
	l := make([]int, n)
	for i := range l {
		l[i] = i
	}
	return l
}

// gives holds an answer without an error against the results that it should have.
func gives(t *testing.T, name string, got []int, n int, e api.Errno, want []int) {
	t.Helper()
	if !slices.Equal(got, want) || n != len(want) || e != api.OK {
		t.Errorf("%s = %v, %d, %d; want %v", name, got, n, e, want)
	}
}

// fails holds an answer with an error against the place and the error that it should have.
func fails(t *testing.T, name string, got []int, n int, e api.Errno, place int, want api.Errno) {
	t.Helper()
	if got != nil || n != place || e != want {
		t.Errorf("%s = %v, %d, %d; want nil, %d, %d", name, got, n, e, place, want)
	}
}

var wrongWorkers = []int{0, -1, -2, math.MinInt, api.MaxWorkers + 1, api.MaxWorkers + 2, math.MaxInt}

// The chapter's examples

func TestExamples(t *testing.T) {
	r, n, e := fan.Each(nil, []int{3, 1, 2}, 2, double)
	gives(t, "example 1", r, n, e, []int{6, 2, 4})
	list := []int{5, -1, 6, -2}
	for workers := 1; workers <= api.MaxWorkers; workers++ {
		r, n, e = fan.Each(nil, list, workers, refusing)
		fails(t, "example 2", r, n, e, 1, api.ErrKey)
		r, n, e = fan.Each(stopOf(t, 1), list, workers, refusing)
		fails(t, "example 2, one beat", r, n, e, 1, api.ErrStopped)
		r, n, e = fan.Each(stopOf(t, 2), list, workers, refusing)
		fails(t, "example 2, two beats", r, n, e, 1, api.ErrKey)
	}
	r, n, e = fan.Each(nil, []int{}, 1, double)
	gives(t, "example 3", r, n, e, []int{})
	r, n, e = fan.Each(nil, []int{}, 0, double)
	fails(t, "example 3, no workers", r, n, e, 0, api.ErrWorkers)
	l, e := fan.Shards(7, 3)
	if !slices.Equal(l, []fan.Range{{From: 0, To: 3}, {From: 3, To: 5}, {From: 5, To: 7}}) || e != api.OK {
		t.Errorf("Shards(7, 3) = %v, %d", l, e)
	}
	l, e = fan.Shards(1, 2)
	if !slices.Equal(l, []fan.Range{{From: 0, To: 1}, {From: 1, To: 1}}) || e != api.OK {
		t.Errorf("Shards(1, 2) = %v, %d", l, e)
	}
}

// P2.1

func TestEachRefusesWrongWorkers(t *testing.T) {
	for _, workers := range wrongWorkers {
		some, none := stopOf(t, 9), stopOf(t, 0)
		called := false
		work := func(x int) (int, api.Errno) {
			called = true
			return x, api.OK
		}
		for _, stop := range []*halt.Stop{nil, some, none} {
			for _, items := range [][]int{nil, {1, 2, 3}} {
				r, n, e := fan.Each(stop, items, workers, work)
				fails(t, "wrong workers", r, n, e, 0, api.ErrWorkers)
			}
		}
		if called {
			t.Errorf("%d workers: an item was handed out", workers)
		}
		if some.Left() != 9 || none.Stopped() {
			t.Errorf("%d workers: a beat was asked", workers)
		}
	}
}

func TestEachTakesAllWorkers(t *testing.T) {
	for workers := 1; workers <= api.MaxWorkers; workers++ {
		for _, size := range []int{0, 1, 2, workers - 1, workers, workers + 1, 100} {
			want := upTo(size)
			for i := range want {
				want[i] *= 2
			}
			r, n, e := fan.Each(nil, upTo(size), workers, double)
			gives(t, "Each", r, n, e, want)
		}
	}
}

func TestEachWorksEachItemOnce(t *testing.T) {
	const size = 500
	for workers := 1; workers <= api.MaxWorkers; workers++ {
		times := make([]int, size)
		fan.Each(nil, upTo(size), workers, func(x int) (int, api.Errno) {
			times[x]++
			return x, api.OK
		})
		for x, n := range times {
			if n != 1 {
				t.Fatalf("%d workers: item %d was worked %d times", workers, x, n)
			}
		}
	}
}

func TestOneWorkerGoesInTheOrderOfTheList(t *testing.T) {
	items := []int{4, 9, 4, 0, -3, 9}
	var seen []int
	fan.Each(nil, items, 1, func(x int) (int, api.Errno) {
		seen = append(seen, x)
		return x, api.OK
	})
	if !slices.Equal(seen, items) {
		t.Errorf("worked in the order %v", seen)
	}
}

func TestEachTakesOneBeatAnItem(t *testing.T) {
	for workers := 1; workers <= api.MaxWorkers; workers++ {
		for size := 0; size <= 20; size++ {
			for _, more := range []int{0, 1, 7} {
				root := stopOf(t, size+more+5)
				stop, _ := root.Child(size + more)
				r, n, e := fan.Each(stop, make([]int, size), workers, double)
				gives(t, "Each", r, n, e, make([]int, size))
				if stop.Left() != more || stop.Stopped() || root.Left() != more+5 {
					t.Errorf("%d items: %d and %d beats are left, stopped %v", size, stop.Left(), root.Left(), stop.Stopped())
				}
			}
		}
	}
}

func TestEachEndsWhereABeatIsRefused(t *testing.T) {
	const size = 20
	for workers := 1; workers <= api.MaxWorkers; workers++ {
		for beats := range size {
			stop := stopOf(t, beats)
			worked := make([]int, size)
			r, n, e := fan.Each(stop, upTo(size), workers, func(x int) (int, api.Errno) {
				worked[x]++
				return x, api.OK
			})
			fails(t, "few beats", r, n, e, beats, api.ErrStopped)
			if stop.Cause() != halt.CauseBeats || stop.Left() != 0 {
				t.Errorf("%d beats: cause %d, left %d", beats, stop.Cause(), stop.Left())
			}
			for x, times := range worked {
				if (x < beats) != (times == 1) {
					t.Errorf("%d beats: item %d was worked %d times", beats, x, times)
				}
			}
		}
	}
}

func TestEachOfAStopThatIsStopped(t *testing.T) {
	root := stopOf(t, 9)
	below, _ := root.Child(9)
	root.Cancel()
	for _, stop := range []*halt.Stop{root, below} {
		called := false
		r, n, e := fan.Each(stop, upTo(3), 2, func(x int) (int, api.Errno) {
			called = true
			return x, api.OK
		})
		fails(t, "a stopped stop", r, n, e, 0, api.ErrStopped)
		if called || stop.Left() != 9 {
			t.Errorf("called %v, left %d", called, stop.Left())
		}
	}
}

func TestEachAsksNoBeatWithoutItems(t *testing.T) {
	none := stopOf(t, 0)
	r, n, e := fan.Each(none, nil, 3, double)
	gives(t, "no beats", r, n, e, nil)
	if none.Stopped() {
		t.Error("a beat was asked")
	}
	none.Cancel()
	r, n, e = fan.Each(none, []int{}, 3, double)
	gives(t, "a stopped stop", r, n, e, nil)
}

func TestEachRefusedByTheStopAbove(t *testing.T) {
	root := stopOf(t, 2)
	stop, _ := root.Child(9)
	r, n, e := fan.Each(stop, upTo(5), 3, double)
	fails(t, "the stop above", r, n, e, 2, api.ErrStopped)
	if root.Cause() != halt.CauseBeats || stop.Cause() != halt.CauseParent || stop.Left() != 7 {
		t.Errorf("causes %d and %d, left %d", root.Cause(), stop.Cause(), stop.Left())
	}
}

func TestAPanicCountsAsAnError(t *testing.T) {
	var nowhere map[int]int
	panics := map[string]func(){
		"text":       func() { panic("text") },
		"error":      func() { panic(errors.New("error")) },
		"errno":      func() { panic(api.ErrKey) },
		"nothing":    func() { panic(nil) },
		"index":      func() { _ = upTo(3)[len(nowhere)+3] },
		"division":   func() { _ = 1 / len(nowhere) },
		"map":        func() { nowhere[1] = 1 },
		"panic anew": func() { defer func() { panic("anew") }(); panic("first") },
	}
	for name, fall := range panics {
		for workers := 1; workers <= api.MaxWorkers; workers++ {
			for place := range 4 {
				r, n, e := fan.Each(nil, upTo(4), workers, func(x int) (int, api.Errno) {
					if x == place {
						fall()
					}
					return x, api.OK
				})
				fails(t, name, r, n, e, place, api.ErrPanic)
			}
		}
	}
}

func TestEachOfNoWork(t *testing.T) {
	r, n, e := fan.Each[int, int](nil, upTo(3), 2, nil)
	fails(t, "a nil work", r, n, e, 0, api.ErrPanic)
	r, n, e = fan.Each[int, int](nil, nil, 2, nil)
	gives(t, "a nil work without items", r, n, e, nil)
}

// P2.2

func TestEachAnswersTheErrorOfTheWork(t *testing.T) {
	for _, want := range []api.Errno{api.ErrBeats, api.ErrWorkers, api.ErrStopped, api.ErrPanic, api.ErrAnswer, 1, -1, math.MaxInt, math.MinInt} {
		for place := range 5 {
			r, n, e := fan.Each(stopOf(t, 5), upTo(5), 3, func(x int) (int, api.Errno) {
				if x == place {
					return 9, want
				}
				return x, api.OK
			})
			fails(t, "Each", r, n, e, place, want)
		}
	}
}

func TestAllItemsFail(t *testing.T) {
	for workers := 1; workers <= api.MaxWorkers; workers++ {
		for range 50 {
			r, n, e := fan.Each(nil, upTo(40), workers, func(x int) (int, api.Errno) {
				return x, api.Errno(100 + x)
			})
			fails(t, "all fail", r, n, e, 0, 100)
		}
	}
}

func TestFailuresAheadOfARefusedBeat(t *testing.T) {
	for workers := 1; workers <= api.MaxWorkers; workers++ {
		for beats := range 6 {
			r, n, e := fan.Each(stopOf(t, beats), []int{1, 2, -3, 4, 5}, workers, refusing)
			if beats <= 2 {
				fails(t, "refused first", r, n, e, beats, api.ErrStopped)
			} else {
				fails(t, "failed first", r, n, e, 2, api.ErrKey)
			}
		}
	}
}

func TestEachOfOtherTypes(t *testing.T) {
	texts, n, e := fan.Each(nil, []string{"a", "", "ccc"}, 2, func(s string) ([]int, api.Errno) {
		return make([]int, len(s)), api.OK
	})
	if len(texts) != 3 || len(texts[0]) != 1 || len(texts[1]) != 0 || len(texts[2]) != 3 || n != 3 || e != api.OK {
		t.Errorf("texts: %v, %d, %d", texts, n, e)
	}
	ranges, n, e := fan.Each(nil, []fan.Range{{From: 1, To: 4}}, 1, func(r fan.Range) (error, api.Errno) {
		return nil, api.OK
	})
	if len(ranges) != 1 || ranges[0] != nil || n != 1 || e != api.OK {
		t.Errorf("ranges: %v, %d, %d", ranges, n, e)
	}
	empty, n, e := fan.Each(nil, make([]struct{}, 5), 4, func(x struct{}) (struct{}, api.Errno) { return x, api.OK })
	if len(empty) != 5 || n != 5 || e != api.OK {
		t.Errorf("empty structs: %v, %d, %d", empty, n, e)
	}
}

func TestEachAnswersNewMemory(t *testing.T) {
	whole := []int{1, 2, 3, 4, 5, 6}
	items := whole[:3]
	same := func(x int) (int, api.Errno) { return x, api.OK }
	a, _, _ := fan.Each(nil, items, 2, same)
	b, _, _ := fan.Each(nil, items, 2, same)
	for i := range a {
		a[i] = -1
	}
	a = append(a, -1, -1)
	if !slices.Equal(whole, []int{1, 2, 3, 4, 5, 6}) {
		t.Errorf("the items are now %v", whole)
	}
	items[0] = 8
	if !slices.Equal(b, []int{1, 2, 3}) {
		t.Errorf("the other answer is now %v", b)
	}
}

// P2.3

func TestShards(t *testing.T) {
	for k := 1; k <= api.MaxWorkers; k++ {
		for _, n := range append(upTo(70), 1000, math.MaxInt-1, math.MaxInt) {
			l, e := fan.Shards(n, k)
			if len(l) != k || e != api.OK {
				t.Fatalf("Shards(%d, %d) = %v, %d", n, k, l, e)
			}
			end := 0
			for i, r := range l {
				size := n / k
				if i < n%k {
					size++
				}
				if r.From != end || r.To-r.From != size {
					t.Errorf("Shards(%d, %d)[%d] = %v; want %d places from %d on", n, k, i, r, size, end)
				}
				end = r.To
			}
			if end != n {
				t.Errorf("Shards(%d, %d) ends at %d", n, k, end)
			}
		}
	}
}

func TestShardsRefuses(t *testing.T) {
	for _, n := range []int{-1, -2, -100, math.MinInt} {
		for _, k := range []int{1, 2, api.MaxWorkers, 0, api.MaxWorkers + 1} {
			if l, e := fan.Shards(n, k); l != nil || e != api.ErrShards {
				t.Errorf("Shards(%d, %d) = %v, %d", n, k, l, e)
			}
		}
	}
	for _, k := range wrongWorkers {
		for _, n := range []int{0, 1, 7, math.MaxInt} {
			if l, e := fan.Shards(n, k); l != nil || e != api.ErrShards {
				t.Errorf("Shards(%d, %d) = %v, %d", n, k, l, e)
			}
		}
	}
}

func TestShardsAnswersNewMemory(t *testing.T) {
	a, _ := fan.Shards(7, 3)
	b, _ := fan.Shards(7, 3)
	a[0] = fan.Range{From: 9, To: 9}
	if b[0] != (fan.Range{From: 0, To: 3}) {
		t.Errorf("the other answer is now %v", b)
	}
}
