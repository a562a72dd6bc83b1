package stream_test

import (
	"bytes"
	"math"
	"slices"
	"testing"

	"proctor/api"
	"proctor/device"
	"proctor/extent"
	"proctor/stream"
)

// count is n bytes that all tell their place, and none of which is 0.
func count(n int) []byte {
	p := make([]byte, n)
	for i := range p {
		p[i] = byte(i%251 + 1)
	}
	return p
}

func newDev(t *testing.T, scratch int, input []byte, faults ...device.Fault) *device.Dev {
	t.Helper()
	d, e := device.New(device.Geometry{Block: 16, Scratch: scratch}, input, nil, faults)
	if e != api.OK {
		t.Fatalf("device.New: %d", e)
	}
	return d
}

func newSpace(t *testing.T, blocks int) *extent.Space {
	t.Helper()
	s, e := extent.New(blocks)
	if e != api.OK {
		t.Fatalf("extent.New: %d", e)
	}
	return s
}

// open opens a file that is right.
func open(t *testing.T, d *device.Dev, f stream.File) *stream.Reader {
	t.Helper()
	r, e := stream.OpenFile(d, f)
	if r == nil || e != api.OK {
		t.Fatalf("OpenFile(%v) = %v, %d", f, r, e)
	}
	return r
}

func reads(t *testing.T, r *stream.Reader, n int, want []byte) {
	t.Helper()
	at, left := r.Offset(), r.Left()
	p, e := r.Read(n)
	if !bytes.Equal(p, want) || e != api.OK {
		t.Errorf("Read(%d) at %d = %v, %d; want %v", n, at, p, e, want)
	}
	if r.Offset() != at+len(want) || r.Left() != left-len(want) {
		t.Errorf("behind Read(%d) at %d: offset %d, %d left", n, at, r.Offset(), r.Left())
	}
}

func refusesRead(t *testing.T, r *stream.Reader, n int, want api.Errno) {
	t.Helper()
	at, left := r.Offset(), r.Left()
	p, e := r.Read(n)
	if len(p) != 0 || e != want {
		t.Errorf("Read(%d) at %d = %v, %d; want none, %d", n, at, p, e, want)
	}
	if r.Offset() != at || r.Left() != left {
		t.Errorf("behind Read(%d), refused: offset %d, %d left; want %d, %d", n, r.Offset(), r.Left(), at, left)
	}
}

func writes(t *testing.T, w *stream.Writer, p []byte, size int) {
	t.Helper()
	if e := w.Write(p); e != api.OK || w.Size() != size {
		t.Errorf("Write of %d bytes: %d, size %d; want size %d", len(p), e, w.Size(), size)
	}
}

func closes(t *testing.T, w *stream.Writer, size int, blocks ...int) stream.File {
	t.Helper()
	f, e := w.Close()
	if !slices.Equal(f.Blocks, blocks) || f.Size != size || e != api.OK || w.Size() != size {
		t.Errorf("Close = %v, %d, size %d; want %v of %d", f, e, w.Size(), blocks, size)
	}
	return f
}

// broken looks at a writer that answers the same error whatever it is asked.
func broken(t *testing.T, w *stream.Writer, want api.Errno) {
	t.Helper()
	for range 2 {
		if e := w.Write(nil); e != want {
			t.Errorf("Write of nothing to a broken writer: %d; want %d", e, want)
		}
		if e := w.Write(count(40)); e != want || w.Size() != 0 {
			t.Errorf("Write to a broken writer: %d, size %d; want %d, 0", e, w.Size(), want)
		}
		if f, e := w.Close(); len(f.Blocks) != 0 || f.Size != 0 || e != want || w.Size() != 0 {
			t.Errorf("Close of a broken writer = %v, %d, size %d; want none, %d, 0", f, e, w.Size(), want)
		}
	}
}

func TestExamples(t *testing.T) {
	d, s := newDev(t, 4, nil), newSpace(t, 4)
	w := stream.Create(d, s)
	writes(t, w, count(20), 20)
	f := closes(t, w, 20, 0, 1)
	if n := d.Counts(); n != (device.Counts{Writes: 2}) {
		t.Errorf("example 1: %+v", n)
	}
	r := open(t, d, f)
	reads(t, r, 18, count(20)[:18])
	reads(t, r, 18, count(20)[18:])
	reads(t, r, 18, nil)
	if n := d.Counts(); n != (device.Counts{Scratch: 2, Writes: 2}) {
		t.Errorf("example 1: %+v", n)
	}
	refusesRead(t, r, -1, api.ErrAsk)
	if f, e := w.Close(); len(f.Blocks) != 0 || f.Size != 0 || e != api.ErrClosed {
		t.Errorf("example 3: Close twice = %v, %d", f, e)
	}
	if r, e := stream.OpenFile(d, stream.File{Blocks: []int{0}, Size: 17}); r != nil || e != api.ErrFile {
		t.Errorf("example 3: OpenFile = %v, %d", r, e)
	}
	s = newSpace(t, 1)
	w = stream.Create(newDev(t, 4, nil), s)
	if e := w.Write(count(20)); e != api.ErrNoSpace || s.Left() != 1 {
		t.Errorf("example 2: Write: %d, %d left", e, s.Left())
	}
	broken(t, w, api.ErrNoSpace)
}

// P8.1: a reader over the input begins at 0, has all of it, and has read nothing yet.
func TestInput(t *testing.T) {
	for _, n := range []int{0, 1, 15, 16, 17, 32, 33} {
		d := newDev(t, 4, count(n))
		r := stream.Input(d)
		if r.Offset() != 0 || r.Left() != n || d.Counts() != (device.Counts{}) {
			t.Errorf("an input of %d: offset %d, %d left, %+v", n, r.Offset(), r.Left(), d.Counts())
		}
		reads(t, r, 40, count(n))
		reads(t, r, 40, nil)
		if got := d.Counts(); got != (device.Counts{Input: (n + 15) / 16}) {
			t.Errorf("an input of %d: %+v", n, got)
		}
	}
}

// P8.1: which files are right for a device.
func TestOpenFile(t *testing.T) {
	d := newDev(t, 4, count(99))
	right := []stream.File{
		{},
		{Blocks: []int{}},
		{Blocks: []int{3}, Size: 1},
		{Blocks: []int{0}, Size: 16},
		{Blocks: []int{3, 0}, Size: 17},
		{Blocks: []int{2, 2}, Size: 32},
		{Blocks: []int{0, 1, 2, 3, 2, 1, 0}, Size: 97},
	}
	for _, f := range right {
		if r := open(t, d, f); r.Offset() != 0 || r.Left() != f.Size {
			t.Errorf("%v: offset %d, %d left", f, r.Offset(), r.Left())
		}
	}
	wrong := []stream.File{
		{Size: 1},
		{Size: -1},
		{Size: -16},
		{Size: math.MinInt},
		{Size: math.MaxInt},
		{Blocks: []int{0}},
		{Blocks: []int{0}, Size: 17},
		{Blocks: []int{0}, Size: -1},
		{Blocks: []int{0}, Size: math.MaxInt},
		{Blocks: []int{0, 1}, Size: 16},
		{Blocks: []int{4}, Size: 16},
		{Blocks: []int{-1}, Size: 16},
		{Blocks: []int{0, math.MaxInt, 1}, Size: 33},
		{Blocks: []int{0, 1, math.MinInt}, Size: 33},
	}
	for _, f := range wrong {
		if r, e := stream.OpenFile(d, f); r != nil || e != api.ErrFile {
			t.Errorf("OpenFile(%v) = %v, %d; want none, %d", f, r, e, api.ErrFile)
		}
	}
	if r, e := stream.OpenFile(newDev(t, 0, nil), stream.File{Blocks: []int{0}, Size: 1}); r != nil || e != api.ErrFile {
		t.Errorf("without a scratch region: %v, %d", r, e)
	}
	open(t, newDev(t, 0, nil), stream.File{})
	if d.Counts() != (device.Counts{}) {
		t.Errorf("opening has read: %+v", d.Counts())
	}
}

// P8.1: a file's bytes are those of its blocks in the order of their numbers,
// each as often as it stands there.
func TestFileBytes(t *testing.T) {
	image := count(64)
	d, _ := device.New(device.Geometry{Block: 16, Scratch: 4}, nil, image, nil)
	r := open(t, d, stream.File{Blocks: []int{3, 0, 3, 3}, Size: 50})
	want := slices.Concat(image[48:], image[:16], image[48:], image[48:50])
	reads(t, r, 20, want[:20])
	reads(t, r, 30, want[20:])
	reads(t, r, 1, nil)
	if n := d.Counts().Scratch; n != 4 {
		t.Errorf("%d reads; want 4", n)
	}
}

// P8.2: how many bytes may be asked for.
func TestAsk(t *testing.T) {
	d := newDev(t, 0, count(api.MaxRead+20))
	r := stream.Input(d)
	for _, n := range []int{-1, api.MaxRead + 1, math.MinInt, math.MaxInt} {
		refusesRead(t, r, n, api.ErrAsk)
	}
	if d.Counts() != (device.Counts{}) {
		t.Errorf("what was refused has read: %+v", d.Counts())
	}
	reads(t, r, api.MaxRead, count(api.MaxRead))
	refusesRead(t, r, api.MaxRead+1, api.ErrAsk)
	reads(t, r, api.MaxRead, count(api.MaxRead + 20)[api.MaxRead:])
	reads(t, r, 0, nil)
	refusesRead(t, r, -1, api.ErrAsk)
}

// P8.2: a block is read when its first byte is asked for, and not again.
func TestWhenBlocksAreRead(t *testing.T) {
	d := newDev(t, 0, count(40))
	r := stream.Input(d)
	at := 0
	for _, step := range []struct{ n, blocks int }{
		{0, 0}, {1, 1}, {0, 1}, {14, 1}, {1, 1}, {0, 1}, {17, 3}, {6, 3}, {1, 3}, {1, 3}, {9, 3},
	} {
		to := min(at+step.n, 40)
		reads(t, r, step.n, count(40)[at:to])
		at = to
		if n := d.Counts().Input; n != step.blocks {
			t.Errorf("at %d: %d blocks read; want %d", at, n, step.blocks)
		}
	}
}

// P8.2: a file's block is seen as it is when its first byte is asked for.
func TestBlockIsHeld(t *testing.T) {
	d, _ := device.New(device.Geometry{Block: 16, Scratch: 2}, nil, count(32), nil)
	r := open(t, d, stream.File{Blocks: []int{0, 1}, Size: 32})
	reads(t, r, 1, count(32)[:1])
	d.WriteScratch(0, make([]byte, 16))
	d.WriteScratch(1, make([]byte, 16))
	reads(t, r, 31, append(count(16)[1:], make([]byte, 16)...))
}

// P8.2: blocks are read in order, and none behind the one that fails.
func TestReadFails(t *testing.T) {
	fault := device.Fault{Kind: device.FaultInput, Block: 1, Nth: 1}
	d := newDev(t, 0, count(60), fault)
	r := stream.Input(d)
	reads(t, r, 3, count(3))
	refusesRead(t, r, 60, api.ErrRead)
	if n := d.Counts(); n != (device.Counts{Input: 2, Struck: 1}) {
		t.Errorf("%+v", n)
	}
	// The second read of the block would be answered, but is never tried.
	for _, n := range []int{0, 1, -1, api.MaxRead + 1, 60} {
		refusesRead(t, r, n, api.ErrRead)
	}
	if r.Offset() != 3 || r.Left() != 57 || d.Counts().Input != 2 {
		t.Errorf("offset %d, %d left, %+v", r.Offset(), r.Left(), d.Counts())
	}
	other := stream.Input(d)
	reads(t, other, 60, count(60))
}

// P8.2: a fault strikes at the first byte of its block, at none before it.
func TestReadFailsAtItsBlock(t *testing.T) {
	d, _ := device.New(device.Geometry{Block: 16, Scratch: 4}, nil, count(64), []device.Fault{{Kind: device.FaultScratch, Block: 0, Nth: 2}})
	r := open(t, d, stream.File{Blocks: []int{0, 1, 0}, Size: 40})
	reads(t, r, 32, count(32))
	refusesRead(t, r, 1, api.ErrRead)
	refusesRead(t, r, 0, api.ErrRead)
}

// P8.2: a device that goes down breaks a reader at its next block.
func TestReadDown(t *testing.T) {
	d := newDev(t, 1, count(20), device.Fault{Kind: device.FaultCrash, Nth: 1, Keep: 16})
	r := stream.Input(d)
	reads(t, r, 1, count(1))
	if e := d.WriteScratch(0, count(16)); e != api.ErrDown {
		t.Fatalf("the crash: %d", e)
	}
	reads(t, r, 15, count(16)[1:])
	refusesRead(t, r, 1, api.ErrDown)
	refusesRead(t, r, 1, api.ErrDown)
	file := open(t, d, stream.File{Blocks: []int{0}, Size: 16})
	refusesRead(t, file, 1, api.ErrDown)
	reads(t, open(t, d, stream.File{}), 9, nil)
}

// P8.4: when blocks are taken, and when they are written.
func TestWhenBlocksAreWritten(t *testing.T) {
	d, s := newDev(t, 8, nil), newSpace(t, 8)
	w := stream.Create(d, s)
	at := 0
	for _, step := range []struct{ n, taken, written int }{
		{0, 0, 0}, {1, 1, 0}, {0, 1, 0}, {14, 1, 0}, {1, 1, 1}, {0, 1, 1}, {1, 2, 1}, {31, 3, 3}, {40, 6, 5}, {7, 6, 5}, {1, 6, 6},
	} {
		writes(t, w, count(200)[at:at+step.n], at+step.n)
		at += step.n
		if taken := 8 - s.Left(); taken != step.taken || d.Counts().Writes != step.written {
			t.Errorf("at %d: %d taken, %d written; want %d, %d", at, taken, d.Counts().Writes, step.taken, step.written)
		}
	}
	f := closes(t, w, 96, 0, 1, 2, 3, 4, 5)
	if n := d.Counts(); n != (device.Counts{Writes: 6}) {
		t.Errorf("%+v", n)
	}
	if !bytes.Equal(d.Image(), append(count(96), make([]byte, 32)...)) {
		t.Errorf("the image: %v", d.Image())
	}
	reads(t, open(t, d, f), 200, count(96))
}

// P8.4: blocks are those that Alloc(1) gives; two writers share a space.
func TestBlocksOfASpace(t *testing.T) {
	d, s := newDev(t, 8, nil), newSpace(t, 8)
	s.Take(extent.Extent{From: 1, Count: 2})
	a, b := stream.Create(d, s), stream.Create(d, s)
	writes(t, a, count(5), 5)
	writes(t, b, count(17), 17)
	writes(t, a, count(32)[5:], 32)
	s.Free(extent.Extent{From: 2, Count: 1})
	writes(t, a, count(33)[32:], 33)
	fa := closes(t, a, 33, 0, 5, 2)
	fb := closes(t, b, 17, 3, 4)
	reads(t, open(t, d, fa), 99, count(33))
	reads(t, open(t, d, fb), 99, count(17))
	if s.Left() != 2 {
		t.Errorf("%d blocks left; want 2", s.Left())
	}
}

// P8.4: without room the writer is broken, and what it had taken is free again.
func TestNoSpace(t *testing.T) {
	d, s := newDev(t, 8, nil), newSpace(t, 4)
	s.Take(extent.Extent{From: 1, Count: 1})
	w := stream.Create(d, s)
	writes(t, w, count(48), 48)
	if s.Left() != 0 {
		t.Errorf("%d blocks left", s.Left())
	}
	if e := w.Write([]byte{1}); e != api.ErrNoSpace || w.Size() != 0 {
		t.Errorf("Write: %d, size %d", e, w.Size())
	}
	want := []extent.Extent{{From: 0, Count: 1}, {From: 2, Count: 2}}
	if !slices.Equal(s.Holes(), want) || d.Counts().Writes != 3 {
		t.Errorf("holes %v, %+v", s.Holes(), d.Counts())
	}
	broken(t, w, api.ErrNoSpace)
	if !slices.Equal(s.Holes(), want) || d.Counts().Writes != 3 {
		t.Errorf("a broken writer did more: holes %v, %+v", s.Holes(), d.Counts())
	}
	none := stream.Create(d, newSpace(t, 0))
	writes(t, none, nil, 0)
	if e := none.Write([]byte{1}); e != api.ErrNoSpace {
		t.Errorf("a space without blocks: %d", e)
	}
	broken(t, none, api.ErrNoSpace)
}

// P8.4: a full block is written before a further byte is looked at, so the
// device's refusal comes ahead of the space's.
func TestWriteFails(t *testing.T) {
	d, s := newDev(t, 8, nil, device.Fault{Kind: device.FaultWrite, Nth: 2}), newSpace(t, 2)
	w := stream.Create(d, s)
	writes(t, w, count(31), 31)
	if e := w.Write(count(40)); e != api.ErrWrite || w.Size() != 0 || s.Left() != 2 {
		t.Errorf("Write: %d, size %d, %d left", e, w.Size(), s.Left())
	}
	broken(t, w, api.ErrWrite)
	if n := d.Counts(); n != (device.Counts{Writes: 2, Struck: 1}) {
		t.Errorf("%+v", n)
	}
	if !bytes.Equal(d.Image()[:32], append(count(16), make([]byte, 16)...)) {
		t.Errorf("the image: %v", d.Image())
	}
}

// P8.4: with a space greater than the device, a block that there isn't breaks the writer.
func TestWriteBeyondTheDevice(t *testing.T) {
	d, s := newDev(t, 1, nil), newSpace(t, 9)
	w := stream.Create(d, s)
	writes(t, w, count(31), 31)
	if e := w.Write([]byte{1}); e != api.ErrBlock || s.Left() != 9 {
		t.Errorf("Write: %d, %d left", e, s.Left())
	}
	broken(t, w, api.ErrBlock)
}

// P8.4: a crash breaks the writer; other files of the space keep their blocks.
func TestWriteCrash(t *testing.T) {
	d, s := newDev(t, 8, nil, device.Fault{Kind: device.FaultCrash, Nth: 3, Keep: 2}), newSpace(t, 8)
	other := stream.Create(d, s)
	writes(t, other, count(16), 16)
	w := stream.Create(d, s)
	if e := w.Write(count(33)); e != api.ErrDown {
		t.Errorf("Write: %d", e)
	}
	broken(t, w, api.ErrDown)
	if want := []extent.Extent{{From: 1, Count: 7}}; !slices.Equal(s.Holes(), want) {
		t.Errorf("holes %v; want %v", s.Holes(), want)
	}
	closes(t, other, 16, 0)
}

// P8.5: a block that is begun is filled up with zeros, whatever was written before.
func TestClose(t *testing.T) {
	image := bytes.Repeat([]byte{9}, 64)
	d, _ := device.New(device.Geometry{Block: 16, Scratch: 4}, nil, image, nil)
	w := stream.Create(d, newSpace(t, 4))
	writes(t, w, count(21), 21)
	f := closes(t, w, 21, 0, 1)
	want := slices.Concat(count(21), make([]byte, 11), image[32:])
	if !bytes.Equal(d.Image(), want) || d.Counts().Writes != 2 {
		t.Errorf("the image: %v, %+v; want %v", d.Image(), d.Counts(), want)
	}
	reads(t, open(t, d, f), 64, count(21))
	for range 2 {
		if e := w.Write([]byte{1}); e != api.ErrClosed {
			t.Errorf("Write of a closed writer: %d", e)
		}
		if e := w.Write(nil); e != api.ErrClosed {
			t.Errorf("Write of nothing to a closed writer: %d", e)
		}
		if f, e := w.Close(); len(f.Blocks) != 0 || f.Size != 0 || e != api.ErrClosed {
			t.Errorf("Close of a closed writer = %v, %d", f, e)
		}
	}
	if w.Size() != 21 || d.Counts().Writes != 2 {
		t.Errorf("size %d, %+v", w.Size(), d.Counts())
	}
}

// P8.5: an empty file has no blocks; a file of whole blocks needs no more writes.
func TestCloseWithoutABegunBlock(t *testing.T) {
	d, s := newDev(t, 4, nil), newSpace(t, 4)
	empty := stream.Create(d, s)
	if empty.Size() != 0 {
		t.Errorf("size %d", empty.Size())
	}
	reads(t, open(t, d, closes(t, empty, 0)), 9, nil)
	if s.Left() != 4 || d.Counts() != (device.Counts{}) {
		t.Errorf("%d left, %+v", s.Left(), d.Counts())
	}
	w := stream.Create(d, s)
	writes(t, w, count(32), 32)
	closes(t, w, 32, 0, 1)
	if s.Left() != 2 || d.Counts().Writes != 2 {
		t.Errorf("%d left, %+v", s.Left(), d.Counts())
	}
}

// P8.5: a Close whose write is refused breaks the writer.
func TestCloseFails(t *testing.T) {
	for _, c := range []struct {
		fault device.Fault
		want  api.Errno
	}{
		{device.Fault{Kind: device.FaultWrite, Nth: 2}, api.ErrWrite},
		{device.Fault{Kind: device.FaultCrash, Nth: 2}, api.ErrDown},
	} {
		d, s := newDev(t, 4, nil, c.fault), newSpace(t, 4)
		w := stream.Create(d, s)
		writes(t, w, count(17), 17)
		if f, e := w.Close(); len(f.Blocks) != 0 || f.Size != 0 || e != c.want || w.Size() != 0 || s.Left() != 4 {
			t.Errorf("Close = %v, %d, size %d, %d left; want %d", f, e, w.Size(), s.Left(), c.want)
		}
		broken(t, w, c.want)
		if n := d.Counts(); n != (device.Counts{Writes: 2, Struck: 1}) || s.Left() != 4 {
			t.Errorf("a broken writer did more: %+v, %d left", n, s.Left())
		}
	}
}

// P8.6: all blocks are tried, in order, and the first error is answered.
func TestDrop(t *testing.T) {
	used := func(n int) *extent.Space {
		s := newSpace(t, 6)
		s.Take(extent.Extent{From: 0, Count: n})
		return s
	}
	for _, c := range []struct {
		blocks []int
		want   api.Errno
		left   int
	}{
		{nil, api.OK, 1},
		{[]int{3, 0, 4}, api.OK, 4},
		{[]int{0, 0, 1}, api.ErrFree, 3},
		{[]int{5, 0}, api.ErrFree, 2},
		{[]int{0, -1, 5, 1}, api.ErrExtent, 3},
		{[]int{0, 5, -1, 1}, api.ErrFree, 3},
		{[]int{6, 2}, api.ErrExtent, 2},
		{[]int{math.MaxInt, math.MinInt, 2}, api.ErrExtent, 2},
		{[]int{4, 3, 2, 1, 0}, api.OK, 6},
	} {
		// A file's size is nothing to Drop.
		for _, size := range []int{0, -1, math.MaxInt} {
			s := used(5)
			if e := stream.Drop(s, stream.File{Blocks: c.blocks, Size: size}); e != c.want || s.Left() != c.left {
				t.Errorf("Drop(%v): %d, %d left; want %d, %d", c.blocks, e, s.Left(), c.want, c.left)
			}
		}
	}
}

// P8.1, P8.4 and the rules: what is handed in is neither changed nor kept, and
// answers share no memory.
func TestOwnMemory(t *testing.T) {
	d, s := newDev(t, 8, count(64)), newSpace(t, 8)
	room := count(40)
	w := stream.Create(d, s)
	writes(t, w, room[:20], 20)
	if !bytes.Equal(room, count(40)) {
		t.Error("Write has changed what was handed in")
	}
	clear(room)
	f := closes(t, w, 20, 0, 1)
	blocks := append(f.Blocks, 99, 99)
	r := open(t, d, stream.File{Blocks: blocks[:2], Size: 20})
	if !slices.Equal(blocks, []int{0, 1, 99, 99}) {
		t.Error("OpenFile has changed what was handed in")
	}
	clear(blocks)
	clear(f.Blocks[:cap(f.Blocks)])
	first, _ := r.Read(9)
	second, _ := r.Read(9)
	for _, p := range [][]byte{first, second} {
		clear(p[:cap(p)])
	}
	reads(t, r, 9, count(20)[18:])

	in := stream.Input(d)
	for range 3 {
		p, _ := in.Read(3)
		clear(p[:cap(p)])
	}
	q, _ := in.Read(64)
	if !bytes.Equal(q, count(64)[9:]) || !bytes.Equal(d.Input(), count(64)) {
		t.Error("what was done to an answer has changed the reader or the input")
	}
	g := stream.File{Blocks: append([]int{0, 1, 7}, 5)[:2]}
	stream.Drop(s, g)
	if !slices.Equal(g.Blocks[:4], []int{0, 1, 7, 5}) || s.Left() != 8 {
		t.Error("Drop has changed what was handed in")
	}
}
