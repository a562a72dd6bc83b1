// Package halt is layer 1: see shared/doc/01-halt.md.
package halt

import (
	"sync"

	"proctor/api"
)

// Why a stop is stopped.
const (
	CauseNone = iota
	CauseCancel
	CauseBeats
	CauseParent
)

// tree is what the stops of one tree share. One mutex guards them all, since a
// call on one stop may reach every other: no goroutine may see a half of that.
type tree struct {
	mutex sync.Mutex
	stops []*Stop // in the order of their making, so a parent stands ahead of its children
}

// Stop is one stop of a tree.
type Stop struct {
	tree   *tree
	parent *Stop // nil: the first one of its tree
	left   int
	cause  int
	done   chan struct{} // closed: stopped
	once   sync.Once     // the first end is the one that counts
}

// New makes the first stop of a new tree.
func New(beats int) (*Stop, api.Errno) {
	if !rightBeats(beats) {
		return nil, api.ErrBeats
	}
	t := &tree{}
	return t.add(nil, beats), api.OK
}

// Child makes a stop below s.
func (s *Stop) Child(beats int) (*Stop, api.Errno) {
	if !rightBeats(beats) {
		return nil, api.ErrBeats
	}
	s.tree.mutex.Lock()
	defer s.tree.mutex.Unlock()
	if len(s.tree.stops) >= api.MaxStops {
		return nil, api.ErrMany
	}
	c := s.tree.add(s, beats)
	if s.ended() {
		c.end(CauseParent)
	}
	return c, api.OK
}

// Cancel stops s by hand.
func (s *Stop) Cancel() bool {
	s.tree.mutex.Lock()
	defer s.tree.mutex.Unlock()
	if s.ended() {
		return false
	}
	s.tree.stop(s, CauseCancel)
	return true
}

// Beat takes one beat of s and of every stop above it.
func (s *Stop) Beat() bool {
	s.tree.mutex.Lock()
	defer s.tree.mutex.Unlock()
	if s.ended() {
		return false
	}
	if spent := s.highestSpent(); spent != nil {
		s.tree.stop(spent, CauseBeats)
		return false
	}
	for a := s; a != nil; a = a.parent {
		a.left--
	}
	return true
}

// Stopped tells whether s is stopped.
func (s *Stop) Stopped() bool {
	s.tree.mutex.Lock()
	defer s.tree.mutex.Unlock()
	return s.ended()
}

// Cause tells why s is stopped.
func (s *Stop) Cause() int {
	s.tree.mutex.Lock()
	defer s.tree.mutex.Unlock()
	return s.cause
}

// Left tells how many beats of its own s has left.
func (s *Stop) Left() int {
	s.tree.mutex.Lock()
	defer s.tree.mutex.Unlock()
	return s.left
}

func rightBeats(beats int) bool {
	return beats >= 0 && beats <= api.MaxBeats
}

// The functions below are called with the tree's mutex held, or by New, whose
// tree nobody else knows yet.

// add makes a live stop below parent.
func (t *tree) add(parent *Stop, beats int) *Stop {
	s := &Stop{tree: t, parent: parent, left: beats, cause: CauseNone, done: make(chan struct{})}
	t.stops = append(t.stops, s)
	return s
}

// stop ends s and all that is live below it. One pass is enough: when a stop's
// turn comes, its parent has had its own.
func (t *tree) stop(s *Stop, cause int) {
	s.end(cause)
	for _, below := range t.stops {
		if below.parent != nil && below.parent.ended() {
			below.end(CauseParent)
		}
	}
}

// end stops s alone. One that is stopped already keeps the cause that it has.
func (s *Stop) end(cause int) {
	s.once.Do(func() {
		s.cause = cause
		close(s.done)
	})
}

// ended tells whether the done channel is closed, without waiting for it.
func (s *Stop) ended() bool {
	select {
	case <-s.done:
		return true
	default:
		return false
	}
}

// highestSpent finds, of s and the stops above it, the one without beats that
// is nearest to the first stop of the tree; nil, if each has beats left.
func (s *Stop) highestSpent() *Stop {
	var spent *Stop
	for a := s; a != nil; a = a.parent {
		if a.left == 0 {
			spent = a
		}
	}
	return spent
}
