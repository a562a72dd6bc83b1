package halt_test

import (
	"math"
	"testing"

	"proctor/api"
	"proctor/halt"
)

func first(t *testing.T, beats int) *halt.Stop {
	t.Helper()
	s, e := halt.New(beats)
	if e != api.OK || s == nil {
		t.Fatalf("New(%d) = %v, %d", beats, s, e)
	}
	return s
}

func child(t *testing.T, s *halt.Stop, beats int) *halt.Stop {
	t.Helper()
	c, e := s.Child(beats)
	if e != api.OK || c == nil {
		t.Fatalf("Child(%d) = %v, %d", beats, c, e)
	}
	return c
}

// is holds a stop against its cause and its beats; a cause says whether it is stopped.
func is(t *testing.T, name string, s *halt.Stop, cause, left int) {
	t.Helper()
	if s.Stopped() != (cause != halt.CauseNone) || s.Cause() != cause || s.Left() != left {
		t.Errorf("%s: stopped %v, cause %d, left %d; want cause %d, left %d", name, s.Stopped(), s.Cause(), s.Left(), cause, left)
	}
}

// answer holds what Beat or Cancel answered against what it should have.
func answer(t *testing.T, name string, got, want bool) {
	t.Helper()
	if got != want {
		t.Errorf("%s = %v, want %v", name, got, want)
	}
}

var (
	rightBeats = []int{0, 1, 2, 1000, api.MaxBeats - 1, api.MaxBeats}
	wrongBeats = []int{-1, -2, math.MinInt, api.MaxBeats + 1, api.MaxBeats + 2, math.MaxInt}
)

func TestCauses(t *testing.T) {
	if halt.CauseNone != 0 || halt.CauseCancel != 1 || halt.CauseBeats != 2 || halt.CauseParent != 3 {
		t.Error("the causes are 0, 1, 2 and 3")
	}
}

// P1.1

func TestNewIsLiveWithItsBeats(t *testing.T) {
	for _, beats := range rightBeats {
		is(t, "New", first(t, beats), halt.CauseNone, beats)
	}
}

func TestNewRefusesWrongBeats(t *testing.T) {
	for _, beats := range wrongBeats {
		if s, e := halt.New(beats); s != nil || e != api.ErrBeats {
			t.Errorf("New(%d) = %v, %d", beats, s, e)
		}
	}
}

func TestTreesAreApart(t *testing.T) {
	a, b := first(t, 3), first(t, 3)
	c := child(t, b, 3)
	for i := 1; i < api.MaxStops; i++ {
		child(t, a, 0)
	}
	child(t, b, 1)
	a.Beat()
	a.Cancel()
	is(t, "a", a, halt.CauseCancel, 2)
	is(t, "b", b, halt.CauseNone, 3)
	is(t, "c", c, halt.CauseNone, 3)
}

// P1.2

func TestChildIsLiveWithItsBeats(t *testing.T) {
	r := first(t, 1)
	for _, beats := range rightBeats {
		is(t, "Child", child(t, r, beats), halt.CauseNone, beats)
	}
	is(t, "r", r, halt.CauseNone, 1)
}

func TestChildRefusesWrongBeats(t *testing.T) {
	r := first(t, 1)
	for _, beats := range wrongBeats {
		if c, e := r.Child(beats); c != nil || e != api.ErrBeats {
			t.Errorf("Child(%d) = %v, %d", beats, c, e)
		}
	}
	r.Cancel()
	if c, e := r.Child(-1); c != nil || e != api.ErrBeats {
		t.Errorf("Child(-1) of a stopped one = %v, %d", c, e)
	}
	is(t, "r", r, halt.CauseCancel, 1)
}

func TestRefusedChildrenAreNotCounted(t *testing.T) {
	r := first(t, 1)
	for range api.MaxStops {
		r.Child(-1)
	}
	for i := 1; i < api.MaxStops; i++ {
		child(t, r, 1)
	}
}

// full is a tree of MaxStops stops: below the first one a chain, below that
// children side by side, one half of them stopped.
func full(t *testing.T) []*halt.Stop {
	t.Helper()
	all := []*halt.Stop{first(t, api.MaxBeats)}
	for len(all) < api.MaxStops/2 {
		all = append(all, child(t, all[len(all)-1], api.MaxBeats))
	}
	low := all[len(all)-1]
	for len(all) < api.MaxStops {
		c := child(t, low, 1)
		if len(all)%2 == 0 {
			c.Cancel()
		}
		all = append(all, c)
	}
	return all
}

func TestMostStopsOfATree(t *testing.T) {
	all := full(t)
	last := all[api.MaxStops-1]
	is(t, "the last", last, halt.CauseNone, 1)
	for i, s := range all {
		cause, left := s.Cause(), s.Left()
		for _, beats := range []int{0, 1, api.MaxBeats} {
			if c, e := s.Child(beats); c != nil || e != api.ErrMany {
				t.Fatalf("stop %d: Child(%d) of a full tree = %v, %d", i, beats, c, e)
			}
		}
		for _, beats := range wrongBeats {
			if c, e := s.Child(beats); c != nil || e != api.ErrBeats {
				t.Fatalf("stop %d: Child(%d) of a full tree = %v, %d", i, beats, c, e)
			}
		}
		is(t, "one of a full tree", s, cause, left)
	}
	answer(t, "the last one's Beat", last.Beat(), true)
	is(t, "r", all[0], halt.CauseNone, api.MaxBeats-1)
	answer(t, "r.Cancel", all[0].Cancel(), true)
	is(t, "the last", last, halt.CauseParent, 0)
	if c, e := all[0].Child(1); c != nil || e != api.ErrMany {
		t.Errorf("stopped ones are counted too: %v, %d", c, e)
	}
}

func TestChildOfAStoppedOne(t *testing.T) {
	byHand, byBeats, top := first(t, 4), first(t, 0), first(t, 4)
	byParent := child(t, top, 4)
	byHand.Cancel()
	byBeats.Beat()
	top.Cancel()
	for i, s := range []*halt.Stop{byHand, byBeats, byParent} {
		cause, left := s.Cause(), s.Left()
		if cause != i+1 {
			t.Fatalf("stop %d has cause %d", i, cause)
		}
		c := child(t, s, 7)
		is(t, "child", c, halt.CauseParent, 7)
		is(t, "grandchild", child(t, c, 0), halt.CauseParent, 0)
		answer(t, "child.Beat", c.Beat(), false)
		answer(t, "child.Cancel", c.Cancel(), false)
		is(t, "child", c, halt.CauseParent, 7)
		is(t, "parent", s, cause, left)
	}
}

// P1.3

func TestCancelStopsWhatIsBelow(t *testing.T) {
	r := first(t, 9)
	a, b := child(t, r, 8), child(t, r, 7)
	c, d := child(t, a, 6), child(t, a, 0)
	e := child(t, c, 4)
	answer(t, "d.Beat", d.Beat(), false)
	answer(t, "c.Cancel", c.Cancel(), true)
	is(t, "e", e, halt.CauseParent, 4)
	answer(t, "a.Cancel", a.Cancel(), true)
	is(t, "r", r, halt.CauseNone, 9)
	is(t, "a", a, halt.CauseCancel, 8)
	is(t, "b", b, halt.CauseNone, 7)
	is(t, "c keeps its cause", c, halt.CauseCancel, 6)
	is(t, "d keeps its cause", d, halt.CauseBeats, 0)
	is(t, "e keeps its cause", e, halt.CauseParent, 4)
	answer(t, "b.Beat", b.Beat(), true)
}

func TestCancelOfAStoppedOneChangesNothing(t *testing.T) {
	r := first(t, 5)
	spent, low := child(t, r, 0), child(t, r, 3)
	spent.Beat()
	answer(t, "spent.Cancel", spent.Cancel(), false)
	is(t, "spent", spent, halt.CauseBeats, 0)
	answer(t, "r.Cancel", r.Cancel(), true)
	answer(t, "r.Cancel again", r.Cancel(), false)
	answer(t, "low.Cancel", low.Cancel(), false)
	is(t, "r", r, halt.CauseCancel, 5)
	is(t, "low", low, halt.CauseParent, 3)
	is(t, "spent", spent, halt.CauseBeats, 0)
}

func TestCancelOfOneWithoutBeats(t *testing.T) {
	r := first(t, 0)
	answer(t, "r.Cancel", r.Cancel(), true)
	answer(t, "r.Beat", r.Beat(), false)
	is(t, "r", r, halt.CauseCancel, 0)
}

// P1.4

func TestBeatTakesOneOfAllAbove(t *testing.T) {
	r := first(t, api.MaxBeats)
	a, b := child(t, r, 5), child(t, r, 5)
	c := child(t, a, 3)
	answer(t, "c.Beat", c.Beat(), true)
	answer(t, "a.Beat", a.Beat(), true)
	answer(t, "r.Beat", r.Beat(), true)
	is(t, "r", r, halt.CauseNone, api.MaxBeats-3)
	is(t, "a", a, halt.CauseNone, 3)
	is(t, "b", b, halt.CauseNone, 5)
	is(t, "c", c, halt.CauseNone, 2)
}

func TestBeatStopsTheOneNearestToTheFirst(t *testing.T) {
	r := first(t, 6)
	a := child(t, r, 0)
	b := child(t, a, 2)
	c := child(t, b, 0)
	beside, below := child(t, b, 1), child(t, c, 3)
	far := child(t, r, 1)
	answer(t, "c.Beat", c.Beat(), false)
	is(t, "r", r, halt.CauseNone, 6)
	is(t, "a", a, halt.CauseBeats, 0)
	is(t, "b", b, halt.CauseParent, 2)
	is(t, "c", c, halt.CauseParent, 0)
	is(t, "beside", beside, halt.CauseParent, 1)
	is(t, "below", below, halt.CauseParent, 3)
	is(t, "far", far, halt.CauseNone, 1)
	answer(t, "far.Beat", far.Beat(), true)
	is(t, "r", r, halt.CauseNone, 5)
}

func TestBeatLooksNotBelow(t *testing.T) {
	r := first(t, 2)
	c := child(t, r, 0)
	answer(t, "r.Beat", r.Beat(), true)
	is(t, "c", c, halt.CauseNone, 0)
	is(t, "r", r, halt.CauseNone, 1)
}

func TestBeatKeepsTheCausesBelow(t *testing.T) {
	r := first(t, 0)
	a := child(t, r, 1)
	b := child(t, a, 1)
	a.Cancel()
	answer(t, "r.Beat", r.Beat(), false)
	is(t, "r", r, halt.CauseBeats, 0)
	is(t, "a", a, halt.CauseCancel, 1)
	is(t, "b", b, halt.CauseParent, 1)
}

func TestBeatOfAStoppedOneChangesNothing(t *testing.T) {
	r := first(t, 1)
	c := child(t, r, 4)
	c.Cancel()
	answer(t, "c.Beat", c.Beat(), false)
	is(t, "r", r, halt.CauseNone, 1)
	is(t, "c", c, halt.CauseCancel, 4)
	answer(t, "r.Beat", r.Beat(), true)
	answer(t, "c.Beat", c.Beat(), false)
	is(t, "r has no beats left, but was not asked", r, halt.CauseNone, 0)
	is(t, "c", c, halt.CauseCancel, 4)
}

// P1.5

func TestAskingChangesNothing(t *testing.T) {
	r := first(t, 1)
	c := child(t, r, 0)
	for range 3 {
		is(t, "r", r, halt.CauseNone, 1)
		is(t, "c", c, halt.CauseNone, 0)
	}
	r.Cancel()
	for range 3 {
		is(t, "r", r, halt.CauseCancel, 1)
		is(t, "c", c, halt.CauseParent, 0)
	}
}

// The chapter's examples.

func TestExample1(t *testing.T) {
	s := first(t, 2)
	answer(t, "Beat", s.Beat(), true)
	answer(t, "Beat", s.Beat(), true)
	answer(t, "Beat", s.Beat(), false)
	is(t, "s", s, halt.CauseBeats, 0)
}

func TestExample2(t *testing.T) {
	r := first(t, 5)
	c := child(t, r, 1)
	d := child(t, c, 9)
	answer(t, "d.Beat", d.Beat(), true)
	is(t, "r", r, halt.CauseNone, 4)
	is(t, "c", c, halt.CauseNone, 0)
	is(t, "d", d, halt.CauseNone, 8)
	answer(t, "d.Beat", d.Beat(), false)
	is(t, "r", r, halt.CauseNone, 4)
	is(t, "c", c, halt.CauseBeats, 0)
	is(t, "d", d, halt.CauseParent, 8)
	answer(t, "r.Beat", r.Beat(), true)
}

func TestExample3(t *testing.T) {
	r := first(t, 0)
	c := child(t, r, 0)
	answer(t, "c.Beat", c.Beat(), false)
	is(t, "r", r, halt.CauseBeats, 0)
	is(t, "c", c, halt.CauseParent, 0)
}

func TestExample4(t *testing.T) {
	r := first(t, 1)
	c := child(t, r, 3)
	answer(t, "r.Cancel", r.Cancel(), true)
	answer(t, "r.Cancel", r.Cancel(), false)
	answer(t, "c.Cancel", c.Cancel(), false)
	is(t, "c", c, halt.CauseParent, 3)
	is(t, "a later child", child(t, r, 1), halt.CauseParent, 1)
}
