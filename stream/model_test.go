package stream_test

import (
	"bytes"
	"slices"
	"testing"

	"proctor/api"
	"proctor/device"
	"proctor/extent"
	"proctor/stream"
)

// dice is a source of numbers that is the same in every run.
type dice uint64

func (d *dice) below(n int) int {
	*d = *d*6364136223846793005 + 1442695040888963407
	return int(uint64(*d) >> 33 % uint64(n))
}

func (d *dice) bytes(n int) []byte {
	p := make([]byte, n)
	for i := range p {
		p[i] = byte(d.below(256))
	}
	return p
}

func (d *dice) faults() []device.Fault {
	var list []device.Fault
	for range d.below(3) {
		list = append(list, device.Fault{Kind: 1 + d.below(3) + d.below(2)*d.below(2), Block: d.below(8), Nth: 1 + d.below(20), Keep: d.below(17)})
	}
	for i, f := range list {
		if f.Kind <= device.FaultScratch {
			list[i].Nth = 1 + d.below(3)
		}
	}
	return list
}

// pair is two devices and two spaces to which the same is done: one through the
// streams, one byte by byte as the document's words go.
type pair struct {
	d, plainD *device.Dev
	s, plainS *extent.Space
}

func newPair(roll *dice) pair {
	block, scratch := 16+roll.below(9), 1+roll.below(12)
	input, image, faults := roll.bytes(roll.below(90)), roll.bytes(roll.below(16*scratch)), roll.faults()
	one := func() (*device.Dev, *extent.Space) {
		d, _ := device.New(device.Geometry{Block: block, Scratch: scratch}, input, image, faults)
		s, _ := extent.New(scratch)
		return d, s
	}
	var p pair
	p.d, p.s = one()
	p.plainD, p.plainS = one()
	return p
}

func (p pair) same(t *testing.T, what string) {
	t.Helper()
	if p.d.Counts() != p.plainD.Counts() || p.d.Down() != p.plainD.Down() || !bytes.Equal(p.d.Image(), p.plainD.Image()) {
		t.Fatalf("%s: the devices differ: %+v, %+v", what, p.d.Counts(), p.plainD.Counts())
	}
	if !slices.Equal(p.s.Holes(), p.plainS.Holes()) {
		t.Fatalf("%s: the spaces differ: %v, %v", what, p.s.Holes(), p.plainS.Holes())
	}
}

// plainReader goes byte by byte, and keeps the block of its last byte.
type plainReader struct {
	read   func(i int) ([]byte, api.Errno)
	block  int
	size   int
	at     int
	have   int // how many blocks it has read
	held   []byte
	broken api.Errno
}

func (r *plainReader) Read(n int) ([]byte, api.Errno) {
	if r.broken != api.OK {
		return nil, r.broken
	}
	if n < 0 || n > api.MaxRead {
		return nil, api.ErrAsk
	}
	var p []byte
	for i := r.at; i < r.at+n && i < r.size; i++ {
		if i/r.block == r.have {
			held, e := r.read(r.have)
			if e != api.OK {
				r.broken = e
				return nil, e
			}
			r.held = held
			r.have++
		}
		p = append(p, r.held[i%r.block])
	}
	r.at += len(p)
	return p, api.OK
}

// plainWriter goes byte by byte, and keeps the bytes of its last block.
type plainWriter struct {
	pair
	blocks []int
	last   []byte
	size   int
	state  api.Errno // ErrClosed, or what broke it
}

func (w *plainWriter) fail(e api.Errno) api.Errno {
	for _, b := range w.blocks {
		w.plainS.Free(extent.Extent{From: b, Count: 1})
	}
	w.size, w.state = 0, e
	return e
}

func (w *plainWriter) put(b byte) api.Errno {
	if len(w.last) == 0 {
		x, e := w.plainS.Alloc(1)
		if e != api.OK {
			return w.fail(e)
		}
		w.blocks = append(w.blocks, x.From)
	}
	w.last = append(w.last, b)
	if len(w.last) == w.plainD.Geometry().Block {
		if e := w.plainD.WriteScratch(w.blocks[len(w.blocks)-1], w.last); e != api.OK {
			return w.fail(e)
		}
		w.last = nil
	}
	return api.OK
}

func (w *plainWriter) Write(p []byte) api.Errno {
	if w.state != api.OK {
		return w.state
	}
	for _, b := range p {
		w.size++
		if e := w.put(b); e != api.OK {
			return e
		}
	}
	return api.OK
}

func (w *plainWriter) Close() (stream.File, api.Errno) {
	if w.state != api.OK {
		return stream.File{}, w.state
	}
	for len(w.last) > 0 {
		if e := w.put(0); e != api.OK {
			return stream.File{}, e
		}
	}
	w.state = api.ErrClosed
	return stream.File{Blocks: w.blocks, Size: w.size}, api.OK
}

type readers struct {
	r     *stream.Reader
	plain *plainReader
}

type writers struct {
	w     *stream.Writer
	plain *plainWriter
}

// world is a pair with all that was opened, begun and closed on it.
type world struct {
	pair
	readers []readers
	writers []writers
	files   []stream.File
	seen    map[api.Errno]int
}

func (x *world) step(t *testing.T, roll *dice) {
	switch roll.below(10) {
	case 0:
		x.input()
	case 1:
		x.open(t, roll)
	case 2, 3, 4:
		x.read(t, roll)
	case 5:
		x.writers = append(x.writers, writers{stream.Create(x.d, x.s), &plainWriter{pair: x.pair}})
	case 6, 7:
		x.write(t, roll)
	case 8:
		x.close(t, roll)
	case 9:
		x.drop(t, roll)
	}
	x.same(t, "a step")
}

func (x *world) input() {
	d := x.plainD
	x.readers = append(x.readers, readers{stream.Input(x.d), &plainReader{read: d.ReadInput, block: d.Geometry().Block, size: len(d.Input())}})
}

// file is one that was closed, or any, which may be wrong.
func (x *world) file(roll *dice) stream.File {
	if len(x.files) > 0 && roll.below(3) > 0 {
		return x.files[roll.below(len(x.files))]
	}
	g := x.d.Geometry()
	var f stream.File
	for range roll.below(5) {
		f.Blocks = append(f.Blocks, roll.below(g.Scratch+1)-roll.below(2)*roll.below(2))
	}
	f.Size = len(f.Blocks)*g.Block - roll.below(g.Block) + roll.below(5) - 2
	return f
}

func fileRight(g device.Geometry, f stream.File) bool {
	for _, b := range f.Blocks {
		if b < 0 || b >= g.Scratch {
			return false
		}
	}
	return f.Size >= 0 && f.Size <= len(f.Blocks)*g.Block && f.Size > (len(f.Blocks)-1)*g.Block
}

func (x *world) open(t *testing.T, roll *dice) {
	f, d := x.file(roll), x.plainD
	r, e := stream.OpenFile(x.d, f)
	x.seen[e]++
	if !fileRight(d.Geometry(), f) {
		if r != nil || e != api.ErrFile {
			t.Fatalf("OpenFile(%v) of %+v = %v, %d", f, d.Geometry(), r, e)
		}
		return
	}
	if r == nil || e != api.OK {
		t.Fatalf("OpenFile(%v) of %+v = %v, %d", f, d.Geometry(), r, e)
	}
	numbers := slices.Clone(f.Blocks)
	read := func(i int) ([]byte, api.Errno) { return d.ReadScratch(numbers[i]) }
	x.readers = append(x.readers, readers{r, &plainReader{read: read, block: d.Geometry().Block, size: f.Size}})
}

func (x *world) read(t *testing.T, roll *dice) {
	if len(x.readers) == 0 {
		return
	}
	r := x.readers[len(x.readers)-1-min(roll.below(len(x.readers)), roll.below(4))]
	n := roll.below(50) - 2
	got, e := r.r.Read(n)
	want, plainE := r.plain.Read(n)
	x.seen[e]++
	if !bytes.Equal(got, want) || e != plainE {
		t.Fatalf("Read(%d) = %v, %d; want %v, %d", n, got, e, want, plainE)
	}
	if r.r.Offset() != r.plain.at || r.r.Left() != r.plain.size-r.plain.at {
		t.Fatalf("Read(%d): offset %d, left %d; want %d of %d", n, r.r.Offset(), r.r.Left(), r.plain.at, r.plain.size)
	}
}

func (x *world) write(t *testing.T, roll *dice) {
	if len(x.writers) == 0 {
		return
	}
	w := x.writers[len(x.writers)-1-min(roll.below(len(x.writers)), roll.below(4))]
	p := roll.bytes(roll.below(45))
	e, plainE := w.w.Write(p), w.plain.Write(p)
	x.seen[e]++
	if e != plainE || w.w.Size() != w.plain.size {
		t.Fatalf("Write of %d = %d, size %d; want %d, %d", len(p), e, w.w.Size(), plainE, w.plain.size)
	}
}

func (x *world) close(t *testing.T, roll *dice) {
	if len(x.writers) == 0 {
		return
	}
	w := x.writers[len(x.writers)-1-min(roll.below(len(x.writers)), roll.below(4))]
	f, e := w.w.Close()
	plainF, plainE := w.plain.Close()
	x.seen[e]++
	if !slices.Equal(f.Blocks, plainF.Blocks) || f.Size != plainF.Size || e != plainE || w.w.Size() != w.plain.size {
		t.Fatalf("Close = %v, %d, size %d; want %v, %d, %d", f, e, w.w.Size(), plainF, plainE, w.plain.size)
	}
	if e == api.OK {
		x.files = append(x.files, f)
	}
}

// drop gives back a closed file, so that no block of a writer goes.
func (x *world) drop(t *testing.T, roll *dice) {
	if len(x.files) == 0 || roll.below(2) > 0 {
		return
	}
	i := roll.below(len(x.files))
	f := x.files[i]
	x.files = slices.Delete(x.files, i, i+1)
	// Blocks that there aren't lie among those that there are.
	f.Blocks = slices.Insert(slices.Clone(f.Blocks), roll.below(len(f.Blocks)+1), -1)
	if roll.below(2) > 0 {
		f.Blocks = slices.DeleteFunc(f.Blocks, func(b int) bool { return b < 0 })
	}
	want := api.OK
	for _, b := range f.Blocks {
		if e := x.plainS.Free(extent.Extent{From: b, Count: 1}); want == api.OK {
			want = e
		}
	}
	if e := stream.Drop(x.s, f); e != want {
		t.Fatalf("Drop(%v): %d; want %d", f, e, want)
	}
}

// P8.1 to P8.6 held against plain streams that go byte by byte.
func TestModel(t *testing.T) {
	roll := dice(8)
	seen := map[api.Errno]int{}
	for range 3000 {
		x := &world{pair: newPair(&roll), seen: seen}
		for range 60 {
			x.step(t, &roll)
		}
	}
	for _, e := range []api.Errno{api.OK, api.ErrFile, api.ErrAsk, api.ErrClosed, api.ErrRead, api.ErrWrite, api.ErrDown, api.ErrNoSpace} {
		if seen[e] < 300 {
			t.Errorf("the error %d was seen %d times only", e, seen[e])
		}
	}
}
