package extent_test

import (
	"testing"

	"proctor/api"
	"proctor/extent"
)

// dice is a source of numbers that is the same in every run.
type dice uint64

func (d *dice) below(n int) int {
	*d = *d*6364136223846793005 + 1442695040888963407
	return int(uint64(*d) >> 33 % uint64(n))
}

// model says of each block whether it is used, and looks at them one by one.
type model []bool

func (m model) holes() []extent.Extent {
	var found []extent.Extent
	for b, used := range m {
		switch {
		case used:
		case b > 0 && !m[b-1]:
			found[len(found)-1].Count++
		default:
			found = append(found, ext(b, 1))
		}
	}
	return found
}

func (m model) alloc(count int) (extent.Extent, api.Errno) {
	if count < 1 {
		return ext(0, 0), api.ErrCount
	}
	for from := range m {
		if m.turn(ext(from, count), false, api.ErrUsed) == api.OK {
			return ext(from, count), api.OK
		}
	}
	return ext(0, 0), api.ErrNoSpace
}

// turn makes the blocks used that were free, or free that were used; one that
// isn't as it should be answers the error.
func (m model) turn(x extent.Extent, used bool, otherwise api.Errno) api.Errno {
	if x.Count < 1 || x.From < 0 || x.From+x.Count > len(m) {
		return api.ErrExtent
	}
	for b := x.From; b < x.From+x.Count; b++ {
		if m[b] != used {
			return otherwise
		}
	}
	for b := x.From; b < x.From+x.Count; b++ {
		m[b] = !used
	}
	return api.OK
}

// step does one call to both, and holds what they answer against each other.
func step(t *testing.T, s *extent.Space, m model, d *dice) api.Errno {
	t.Helper()
	x := ext(d.below(len(m)+3)-1, d.below(6)-1)
	var got, want api.Errno
	switch d.below(3) {
	case 0:
		var given, room extent.Extent
		given, got = s.Alloc(x.Count)
		room, want = m.alloc(x.Count)
		if given != room {
			t.Fatalf("Alloc(%d) = %v, want %v", x.Count, given, room)
		}
	case 1:
		got, want = s.Take(x), m.turn(x, false, api.ErrUsed)
	case 2:
		got, want = s.Free(x), m.turn(x, true, api.ErrFree)
	}
	if got != want {
		t.Fatalf("%v: %d, want %d", x, got, want)
	}
	return got
}

// All promises: a space answers as blocks that are looked at one by one.
func TestModel(t *testing.T) {
	d := dice(4)
	seen := map[api.Errno]int{}
	for round := range 300 {
		blocks := round % 30
		s, m := made(t, blocks), make(model, blocks)
		for range 100 {
			seen[step(t, s, m, &d)]++
			holes(t, s, m.holes()...)
		}
	}
	for _, e := range []api.Errno{api.OK, api.ErrCount, api.ErrNoSpace, api.ErrExtent, api.ErrFree, api.ErrUsed} {
		if seen[e] < 100 {
			t.Errorf("error %d was seen %d times only", e, seen[e])
		}
	}
}
