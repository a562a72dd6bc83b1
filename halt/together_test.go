package halt_test

import (
	"runtime"
	"sync"
	"sync/atomic"
	"testing"

	"proctor/api"
	"proctor/halt"
)

// together runs work on several goroutines that set out at one time.
func together(n int, work func(i int)) {
	var join sync.WaitGroup
	start := make(chan struct{})
	for i := range n {
		join.Go(func() {
			<-start
			work(i)
		})
	}
	close(start)
	join.Wait()
}

func TestBeatsTogether(t *testing.T) {
	const workers, beats, most = 8, 5000, 1000
	r := first(t, beats)
	all := make([]*halt.Stop, workers)
	for i := range all {
		all[i] = child(t, r, most)
	}
	var sum atomic.Int64
	together(workers, func(i int) {
		for all[i].Beat() {
			sum.Add(1)
		}
	})
	if sum.Load() != beats {
		t.Errorf("%d beats were given, want %d", sum.Load(), beats)
	}
	is(t, "r", r, halt.CauseBeats, 0)
	left := 0
	for _, c := range all {
		if c.Cause() == halt.CauseNone {
			t.Error("a child outlived the first stop")
		}
		left += c.Left()
	}
	if left != workers*most-beats {
		t.Errorf("the children have %d left, want %d", left, workers*most-beats)
	}
}

func TestCancelTogether(t *testing.T) {
	for range 200 {
		r := first(t, 1)
		c := child(t, r, 1)
		var done atomic.Int64
		together(8, func(i int) {
			if r.Cancel() {
				done.Add(1)
			}
		})
		if done.Load() != 1 {
			t.Fatalf("%d of 8 calls stopped it, want 1", done.Load())
		}
		is(t, "r", r, halt.CauseCancel, 1)
		is(t, "c", c, halt.CauseParent, 1)
	}
}

func TestChildrenTogether(t *testing.T) {
	r := first(t, 1)
	var made, refused atomic.Int64
	together(8, func(i int) {
		for range api.MaxStops {
			switch c, e := r.Child(1); {
			case e == api.OK && c != nil:
				made.Add(1)
			case e == api.ErrMany && c == nil:
				refused.Add(1)
			}
		}
	})
	if made.Load() != api.MaxStops-1 || refused.Load() != 7*api.MaxStops+1 {
		t.Errorf("%d made, %d refused", made.Load(), refused.Load())
	}
}

// line is a tree of n stops, each below the one before; told are its first and its last.
func line(t *testing.T, n int) (*halt.Stop, *halt.Stop) {
	t.Helper()
	const beats = 2000
	r := first(t, beats)
	low := r
	for range n - 1 {
		low = child(t, low, beats)
	}
	return r, low
}

// TestStoppedAsOne: whoever sees the first stop stopped sees the lowest one so.
// The seer asks by one call alone, so that no other call waits in its stead.
func TestStoppedAsOne(t *testing.T) {
	for name, stopped := range map[string]func(*halt.Stop) bool{
		"Stopped": (*halt.Stop).Stopped,
		"Cause":   func(s *halt.Stop) bool { return s.Cause() != halt.CauseNone },
	} {
		for range 200 {
			r, low := line(t, api.MaxStops)
			var late atomic.Int64
			together(4, func(i int) {
				if i == 0 {
					r.Cancel()
					return
				}
				for !stopped(r) {
					runtime.Gosched()
				}
				if !stopped(low) {
					late.Add(1)
				}
			})
			if late.Load() != 0 {
				t.Fatalf("%s: the first stop was seen stopped ahead of the lowest", name)
			}
		}
	}
}

// TestBeatTakenAsOne: whoever sees the lowest stop's beat taken sees the first one's so.
func TestBeatTakenAsOne(t *testing.T) {
	r, low := line(t, api.MaxStops)
	var late atomic.Int64
	together(4, func(i int) {
		if i == 0 {
			for low.Beat() {
			}
			return
		}
		for below := low.Left(); below > 0; below = low.Left() {
			if r.Left() > below {
				late.Add(1)
			}
			runtime.Gosched()
		}
	})
	if late.Load() != 0 {
		t.Errorf("%d times the lowest stop's beat was seen taken ahead of the first one's", late.Load())
	}
	is(t, "r", r, halt.CauseBeats, 0)
	is(t, "low", low, halt.CauseParent, 0)
}

// TestChildrenOfOneThatIsBeingStopped: no child slips through while the stops
// above it are being stopped.
func TestChildrenOfOneThatIsBeingStopped(t *testing.T) {
	for range 200 {
		r, low := line(t, api.MaxStops/2)
		made := make([][]*halt.Stop, 4)
		together(4, func(i int) {
			if i == 0 {
				r.Cancel()
				return
			}
			for range 20 {
				if c, e := low.Child(1); e == api.OK {
					made[i] = append(made[i], c)
				}
			}
		})
		for _, list := range made[1:] {
			if len(list) != 20 {
				t.Fatalf("%d children were made, want 20", len(list))
			}
			for _, c := range list {
				is(t, "child", c, halt.CauseParent, 1)
			}
		}
	}
}
