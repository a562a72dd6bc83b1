package extent_test

import (
	"math"
	"slices"
	"testing"

	"proctor/api"
	"proctor/extent"
)

func made(t *testing.T, blocks int) *extent.Space {
	t.Helper()
	s, e := extent.New(blocks)
	if e != api.OK || s == nil {
		t.Fatalf("New(%d) = %v, %d", blocks, s, e)
	}
	return s
}

// ext writes an extent short.
func ext(from, count int) extent.Extent {
	return extent.Extent{From: from, Count: count}
}

func gives(t *testing.T, s *extent.Space, count int, want extent.Extent) {
	t.Helper()
	if x, e := s.Alloc(count); e != api.OK || x != want {
		t.Errorf("Alloc(%d) = %v, %d; want %v", count, x, e, want)
	}
}

func givesNone(t *testing.T, s *extent.Space, count int, want api.Errno) {
	t.Helper()
	if x, e := s.Alloc(count); e != want || x != ext(0, 0) {
		t.Errorf("Alloc(%d) = %v, %d; want {0 0}, %d", count, x, e, want)
	}
}

func takes(t *testing.T, s *extent.Space, x extent.Extent, want api.Errno) {
	t.Helper()
	if e := s.Take(x); e != want {
		t.Errorf("Take(%v) = %d, want %d", x, e, want)
	}
}

func frees(t *testing.T, s *extent.Space, x extent.Extent, want api.Errno) {
	t.Helper()
	if e := s.Free(x); e != want {
		t.Errorf("Free(%v) = %d, want %d", x, e, want)
	}
}

// holes looks at all that a space tells of itself.
func holes(t *testing.T, s *extent.Space, want ...extent.Extent) {
	t.Helper()
	left, largest := 0, 0
	for _, x := range want {
		left += x.Count
		largest = max(largest, x.Count)
	}
	if got := s.Holes(); !slices.Equal(got, want) || s.Left() != left || s.Largest() != largest {
		t.Errorf("holes %v, left %d, largest %d; want %v, %d, %d", got, s.Left(), s.Largest(), want, left, largest)
	}
}

// P4.1: a new space is all free, at every size that is allowed.
func TestNew(t *testing.T) {
	for _, blocks := range []int{1, 2, 10, api.MaxScratch - 1, api.MaxScratch} {
		holes(t, made(t, blocks), ext(0, blocks))
	}
	holes(t, made(t, 0))
}

// P4.1: a size below 0 or past the limit is refused.
func TestNewRefused(t *testing.T) {
	for _, blocks := range []int{-1, math.MinInt, api.MaxScratch + 1, math.MaxInt} {
		if s, e := extent.New(blocks); s != nil || e != api.ErrSpace {
			t.Errorf("New(%d) = %v, %d; want nil, %d", blocks, s, e, api.ErrSpace)
		}
	}
}

// P4.1: two spaces know nothing of each other.
func TestNewApart(t *testing.T) {
	a, b := made(t, 4), made(t, 4)
	gives(t, a, 3, ext(0, 3))
	holes(t, a, ext(3, 1))
	holes(t, b, ext(0, 4))
}

// P4.2: what is given is used from then on, to the last block.
func TestAllocAll(t *testing.T) {
	s := made(t, api.MaxScratch)
	gives(t, s, api.MaxScratch-1, ext(0, api.MaxScratch-1))
	holes(t, s, ext(api.MaxScratch-1, 1))
	givesNone(t, s, 2, api.ErrNoSpace)
	gives(t, s, 1, ext(api.MaxScratch-1, 1))
	holes(t, s)
	givesNone(t, s, 1, api.ErrNoSpace)

	whole := made(t, api.MaxScratch)
	gives(t, whole, api.MaxScratch, ext(0, api.MaxScratch))
	holes(t, whole)
}

// P4.2: the lowest hole that has the room gives it, not the one that fits best,
// nor the greatest, nor two of them together.
func TestAllocLowest(t *testing.T) {
	space := func() *extent.Space {
		s := made(t, 20)
		takes(t, s, ext(2, 2), api.OK)
		takes(t, s, ext(8, 1), api.OK)
		takes(t, s, ext(12, 1), api.OK)
		takes(t, s, ext(19, 1), api.OK)
		holes(t, s, ext(0, 2), ext(4, 4), ext(9, 3), ext(13, 6))
		return s
	}
	s := space()
	gives(t, s, 3, ext(4, 3))
	holes(t, s, ext(0, 2), ext(7, 1), ext(9, 3), ext(13, 6))
	gives(t, s, 1, ext(0, 1))
	holes(t, s, ext(1, 1), ext(7, 1), ext(9, 3), ext(13, 6))

	s = space()
	gives(t, s, 4, ext(4, 4))
	holes(t, s, ext(0, 2), ext(9, 3), ext(13, 6))

	s = space()
	gives(t, s, 5, ext(13, 5))
	holes(t, s, ext(0, 2), ext(4, 4), ext(9, 3), ext(18, 1))

	s = space()
	gives(t, s, 6, ext(13, 6))
	givesNone(t, s, 5, api.ErrNoSpace)
	gives(t, s, 2, ext(0, 2))
	holes(t, s, ext(4, 4), ext(9, 3))
}

// P4.2: wrong counts, of which ErrCount comes ahead of ErrNoSpace; nothing changes.
func TestAllocRefused(t *testing.T) {
	for _, count := range []int{0, -1, math.MinInt} {
		givesNone(t, made(t, 0), count, api.ErrCount)
		s := made(t, 10)
		takes(t, s, ext(3, 1), api.OK)
		givesNone(t, s, count, api.ErrCount)
		holes(t, s, ext(0, 3), ext(4, 6))
	}
	for _, count := range []int{7, 9, 10, api.MaxScratch + 1, math.MaxInt} {
		givesNone(t, made(t, 0), count, api.ErrNoSpace)
		s := made(t, 10)
		takes(t, s, ext(3, 1), api.OK)
		givesNone(t, s, count, api.ErrNoSpace)
		holes(t, s, ext(0, 3), ext(4, 6))
	}
}

// P4.3: blocks at the beginning, in the middle, at the end of a hole, and a whole one.
func TestTake(t *testing.T) {
	s := made(t, 12)
	takes(t, s, ext(5, 2), api.OK)
	holes(t, s, ext(0, 5), ext(7, 5))
	takes(t, s, ext(0, 1), api.OK)
	holes(t, s, ext(1, 4), ext(7, 5))
	takes(t, s, ext(10, 2), api.OK)
	holes(t, s, ext(1, 4), ext(7, 3))
	takes(t, s, ext(7, 1), api.OK)
	holes(t, s, ext(1, 4), ext(8, 2))
	takes(t, s, ext(8, 2), api.OK)
	holes(t, s, ext(1, 4))
	takes(t, s, ext(1, 4), api.OK)
	holes(t, s)

	whole := made(t, api.MaxScratch)
	takes(t, whole, ext(0, api.MaxScratch), api.OK)
	holes(t, whole)
}

// P4.3: one used block is enough to refuse, at either end, in the middle, or
// where the extent spans several holes.
func TestTakeUsed(t *testing.T) {
	s := made(t, 10)
	takes(t, s, ext(4, 2), api.OK)
	for _, x := range []extent.Extent{
		ext(4, 1), ext(5, 1), ext(4, 2), ext(3, 2), ext(5, 2), ext(3, 4), ext(0, 5), ext(5, 5), ext(0, 10),
	} {
		takes(t, s, x, api.ErrUsed)
		holes(t, s, ext(0, 4), ext(6, 4))
	}
	takes(t, s, ext(0, 4), api.OK)
	takes(t, s, ext(6, 4), api.OK)
	takes(t, s, ext(0, 1), api.ErrUsed)
	holes(t, s)
}

// wrong is extents that aren't all blocks of a space of 10; some have a sum
// past 64 bits, which may not be taken for a small one.
func wrong() []extent.Extent {
	return []extent.Extent{
		ext(0, 0), ext(5, 0), ext(10, 0), ext(5, -1), ext(9, -9), ext(5, math.MinInt),
		ext(-1, 1), ext(-1, 2), ext(-5, 10), ext(math.MinInt, 1), ext(math.MinInt, math.MaxInt),
		ext(10, 1), ext(9, 2), ext(0, 11), ext(1, 10), ext(11, 1),
		ext(math.MaxInt, 1), ext(math.MaxInt, math.MaxInt), ext(1, math.MaxInt), ext(9, math.MaxInt),
		ext(math.MinInt, math.MinInt), ext(math.MaxInt, math.MinInt), ext(2, math.MaxInt-1),
	}
}

// P4.3, P4.4: what is no extent of the space, free or used, comes ahead of all else.
func TestWrongExtent(t *testing.T) {
	s := made(t, 10)
	for _, x := range wrong() {
		takes(t, s, x, api.ErrExtent)
		frees(t, s, x, api.ErrExtent)
		holes(t, s, ext(0, 10))
	}
	gives(t, s, 10, ext(0, 10))
	for _, x := range wrong() {
		takes(t, s, x, api.ErrExtent)
		frees(t, s, x, api.ErrExtent)
		holes(t, s)
	}
	none := made(t, 0)
	takes(t, none, ext(0, 1), api.ErrExtent)
	frees(t, none, ext(0, 1), api.ErrExtent)
	takes(t, none, ext(0, 0), api.ErrExtent)
	frees(t, none, ext(0, 0), api.ErrExtent)
}

// P4.4: what comes back touches no hole, the one below, the one above, or both.
func TestFree(t *testing.T) {
	s := made(t, 10)
	gives(t, s, 10, ext(0, 10))
	frees(t, s, ext(4, 1), api.OK)
	holes(t, s, ext(4, 1))
	frees(t, s, ext(5, 1), api.OK)
	holes(t, s, ext(4, 2))
	frees(t, s, ext(2, 2), api.OK)
	holes(t, s, ext(2, 4))
	frees(t, s, ext(9, 1), api.OK)
	holes(t, s, ext(2, 4), ext(9, 1))
	frees(t, s, ext(0, 1), api.OK)
	holes(t, s, ext(0, 1), ext(2, 4), ext(9, 1))
	frees(t, s, ext(7, 1), api.OK)
	holes(t, s, ext(0, 1), ext(2, 4), ext(7, 1), ext(9, 1))
	frees(t, s, ext(6, 1), api.OK)
	holes(t, s, ext(0, 1), ext(2, 6), ext(9, 1))
	frees(t, s, ext(1, 1), api.OK)
	holes(t, s, ext(0, 8), ext(9, 1))
	frees(t, s, ext(8, 1), api.OK)
	holes(t, s, ext(0, 10))
}

// P4.4: pieces of what was given at one time, and several at one time.
func TestFreePieces(t *testing.T) {
	s := made(t, 12)
	gives(t, s, 6, ext(0, 6))
	frees(t, s, ext(2, 2), api.OK)
	holes(t, s, ext(2, 2), ext(6, 6))
	frees(t, s, ext(0, 2), api.OK)
	frees(t, s, ext(4, 2), api.OK)
	holes(t, s, ext(0, 12))

	gives(t, s, 3, ext(0, 3))
	gives(t, s, 3, ext(3, 3))
	takes(t, s, ext(6, 2), api.OK)
	frees(t, s, ext(1, 6), api.OK)
	holes(t, s, ext(1, 6), ext(8, 4))
	gives(t, s, 6, ext(1, 6))
	holes(t, s, ext(8, 4))
}

// P4.4: one free block is enough to refuse, and then no block comes back.
func TestFreeFree(t *testing.T) {
	s := made(t, 10)
	gives(t, s, 10, ext(0, 10))
	frees(t, s, ext(4, 2), api.OK)
	for _, x := range []extent.Extent{
		ext(4, 1), ext(5, 1), ext(4, 2), ext(3, 2), ext(5, 2), ext(3, 4), ext(0, 5), ext(5, 5), ext(0, 10),
	} {
		frees(t, s, x, api.ErrFree)
		holes(t, s, ext(4, 2))
	}
	frees(t, made(t, 3), ext(0, 3), api.ErrFree)
}

// P4.5: every other block is used, which is the most holes that can be.
func TestMostHoles(t *testing.T) {
	s := made(t, api.MaxScratch)
	var want []extent.Extent
	for b := 0; b < api.MaxScratch; b += 2 {
		takes(t, s, ext(b, 1), api.OK)
		want = append(want, ext(b+1, 1))
	}
	holes(t, s, want...)
	givesNone(t, s, 2, api.ErrNoSpace)
	for b := 0; b < api.MaxScratch; b += 2 {
		frees(t, s, ext(b, 1), api.OK)
	}
	holes(t, s, ext(0, api.MaxScratch))
}

// P4.5 and the rules: the holes that are told are the caller's own, their spare
// room too, and the space goes on without them.
func TestHolesAreNew(t *testing.T) {
	s := made(t, 10)
	takes(t, s, ext(3, 1), api.OK)
	takes(t, s, ext(6, 1), api.OK)
	first := s.Holes()
	second := s.Holes()
	for i := range first[:cap(first)] {
		first[:cap(first)][i] = ext(-7, -7)
	}
	want := []extent.Extent{ext(0, 3), ext(4, 2), ext(7, 3)}
	if !slices.Equal(second, want) {
		t.Errorf("another answer changed to %v", second)
	}
	holes(t, s, want...)
	frees(t, s, ext(3, 1), api.OK)
	holes(t, s, ext(0, 6), ext(7, 3))
	if !slices.Equal(second, want) {
		t.Errorf("an answer changed to %v behind a Free", second)
	}
}

// The chapter's examples 1 and 2.
func TestExamples(t *testing.T) {
	s := made(t, 10)
	gives(t, s, 4, ext(0, 4))
	gives(t, s, 3, ext(4, 3))
	givesNone(t, s, 4, api.ErrNoSpace)
	frees(t, s, ext(1, 2), api.OK)
	holes(t, s, ext(1, 2), ext(7, 3))
	gives(t, s, 3, ext(7, 3))
	gives(t, s, 1, ext(1, 1))
	holes(t, s, ext(2, 1))
	frees(t, s, ext(0, 2), api.OK)
	frees(t, s, ext(1, 3), api.ErrFree)
	holes(t, s, ext(0, 3))
}

// The chapter's example 3.
func TestExampleTake(t *testing.T) {
	s := made(t, 10)
	takes(t, s, ext(9, 2), api.ErrExtent)
	takes(t, s, ext(9, 1), api.OK)
	takes(t, s, ext(9, 1), api.ErrUsed)
	holes(t, s, ext(0, 9))
}
