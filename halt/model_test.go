package halt_test

import (
	"testing"

	"proctor/api"
	"proctor/halt"
)

// plain is one stop of a model that is written straight from the chapter, for
// a tree that one goroutine asks.
type plain struct {
	above       []*plain // from the first stop of the tree down to the parent
	below       []*plain // all descendants
	left, cause int
}

func (p *plain) child(beats int) *plain {
	c := &plain{above: append(append([]*plain(nil), p.above...), p), left: beats}
	if p.cause != halt.CauseNone {
		c.cause = halt.CauseParent
	}
	for _, a := range c.above {
		a.below = append(a.below, c)
	}
	return c
}

func (p *plain) stop(cause int) {
	p.cause = cause
	for _, d := range p.below {
		if d.cause == halt.CauseNone {
			d.cause = halt.CauseParent
		}
	}
}

func (p *plain) cancel() bool {
	if p.cause != halt.CauseNone {
		return false
	}
	p.stop(halt.CauseCancel)
	return true
}

func (p *plain) beat() bool {
	if p.cause != halt.CauseNone {
		return false
	}
	line := append(append([]*plain(nil), p.above...), p)
	for _, a := range line {
		if a.left == 0 {
			a.stop(halt.CauseBeats)
			return false
		}
	}
	for _, a := range line {
		a.left--
	}
	return true
}

// dice gives numbers that look thrown and are the same in every run.
type dice uint64

func (d *dice) below(n int) int {
	*d = *d*6364136223846793005 + 1442695040888963407
	return int(uint64(*d)>>33) % n
}

// step does one thing to both trees and tells whether they answered alike.
func step(d *dice, stops *[]*halt.Stop, model *[]*plain) bool {
	i := d.below(len(*stops))
	s, p := (*stops)[i], (*model)[i]
	switch d.below(8) {
	case 0:
		return s.Cancel() == p.cancel()
	case 1, 2:
		beats := d.below(12)
		c, e := s.Child(beats)
		if len(*model) == api.MaxStops {
			return c == nil && e == api.ErrMany
		}
		if e != api.OK || c == nil {
			return false
		}
		*stops, *model = append(*stops, c), append(*model, p.child(beats))
		return true
	default:
		return s.Beat() == p.beat()
	}
}

func TestAgainstTheModel(t *testing.T) {
	for seed := range 400 {
		d := dice(seed)
		beats := d.below(60)
		stops, model := []*halt.Stop{first(t, beats)}, []*plain{{left: beats}}
		steps := 60
		if seed%40 == 0 { // long enough to fill the tree
			steps = 1500
		}
		for n := range steps {
			if !step(&d, &stops, &model) {
				t.Fatalf("seed %d, step %d: another answer than the model's", seed, n)
			}
			for i, p := range model {
				s := stops[i]
				if s.Stopped() != (p.cause != halt.CauseNone) || s.Cause() != p.cause || s.Left() != p.left {
					t.Fatalf("seed %d, step %d, stop %d: cause %d, left %d; the model: %d, %d", seed, n, i, s.Cause(), s.Left(), p.cause, p.left)
				}
			}
		}
	}
}
