package device_test

import (
	"bytes"
	"math"
	"slices"
	"testing"

	"proctor/api"
	"proctor/device"
)

var small = device.Geometry{Block: 16, Scratch: 2}

func made(t *testing.T, g device.Geometry, input, scratch []byte, faults ...device.Fault) *device.Dev {
	t.Helper()
	d, e := device.New(g, input, scratch, faults)
	if e != api.OK || d == nil {
		t.Fatalf("New(%v, %d bytes, %d bytes, %v) = %v, %d", g, len(input), len(scratch), faults, d, e)
	}
	return d
}

func refused(t *testing.T, g device.Geometry, input, scratch []byte, faults []device.Fault, want api.Errno) {
	t.Helper()
	if d, e := device.New(g, input, scratch, faults); d != nil || e != want {
		t.Errorf("New(%v, %d bytes, %d bytes, %d faults) = %v, %d; want nil, %d", g, len(input), len(scratch), len(faults), d, e, want)
	}
}

// rising is that many bytes 1, 2, 3, .. which differ from block to block.
func rising(size int) []byte {
	p := make([]byte, size)
	for i := range p {
		p[i] = byte(i%251 + 1)
	}
	return p
}

func full(b byte, size int) []byte {
	return bytes.Repeat([]byte{b}, size)
}

type reader func(b int) ([]byte, api.Errno)

func reads(t *testing.T, name string, read reader, b int, want []byte) {
	t.Helper()
	if p, e := read(b); e != api.OK || !bytes.Equal(p, want) {
		t.Errorf("%s(%d) = %v, %d; want %v", name, b, p, e, want)
	}
}

func readFails(t *testing.T, name string, read reader, b int, want api.Errno) {
	t.Helper()
	if p, e := read(b); e != want || len(p) != 0 {
		t.Errorf("%s(%d) = %v, %d; want nothing, %d", name, b, p, e, want)
	}
}

func writes(t *testing.T, d *device.Dev, b int, data []byte, want api.Errno) {
	t.Helper()
	if e := d.WriteScratch(b, data); e != want {
		t.Errorf("WriteScratch(%d, %d bytes) = %d, want %d", b, len(data), e, want)
	}
}

func counts(t *testing.T, d *device.Dev, want device.Counts) {
	t.Helper()
	if d.Counts() != want {
		t.Errorf("Counts() = %v, want %v", d.Counts(), want)
	}
}

func image(t *testing.T, d *device.Dev, want []byte) {
	t.Helper()
	if !bytes.Equal(d.Image(), want) {
		t.Errorf("Image() = %v, want %v", d.Image(), want)
	}
}

func TestKinds(t *testing.T) {
	if device.FaultInput != 1 || device.FaultScratch != 2 || device.FaultWrite != 3 || device.FaultCrash != 4 {
		t.Error("the kinds of faults are 1, 2, 3 and 4")
	}
}

// P3.1

func TestNewTakesTheBoundsOfTheGeometry(t *testing.T) {
	for _, block := range []int{api.MinBlock, api.MinBlock + 1, 100, api.MaxBlock} {
		for _, scratch := range []int{0, 1, 7, api.MaxScratch} {
			g := device.Geometry{Block: block, Scratch: scratch}
			d := made(t, g, nil, nil)
			if d.Geometry() != g || d.Blocks() != 0 || d.Down() || len(d.Input()) != 0 {
				t.Errorf("New(%v): %v, %d blocks", g, d.Geometry(), d.Blocks())
			}
			counts(t, d, device.Counts{})
			image(t, d, make([]byte, block*scratch))
		}
	}
}

func TestNewRefusesAGeometry(t *testing.T) {
	for _, block := range []int{math.MinInt, -16, 0, api.MinBlock - 1, api.MaxBlock + 1, math.MaxInt} {
		refused(t, device.Geometry{Block: block, Scratch: 1}, nil, nil, nil, api.ErrGeometry)
	}
	for _, scratch := range []int{math.MinInt, -1, api.MaxScratch + 1, math.MaxInt} {
		refused(t, device.Geometry{Block: 16, Scratch: scratch}, nil, nil, nil, api.ErrGeometry)
	}
}

func TestNewTakesInputUpToItsLimit(t *testing.T) {
	input := rising(api.MaxInput)
	d := made(t, small, input, nil)
	if d.Blocks() != api.MaxInput/16 || !bytes.Equal(d.Input(), input) {
		t.Errorf("%d blocks, %d bytes", d.Blocks(), len(d.Input()))
	}
	last := api.MaxInput/16 - 1
	reads(t, "ReadInput", d.ReadInput, last, input[api.MaxInput-16:])
	readFails(t, "ReadInput", d.ReadInput, last+1, api.ErrBlock)
	refused(t, small, make([]byte, api.MaxInput+1), nil, nil, api.ErrInput)
}

func TestNewFillsTheScratchRegion(t *testing.T) {
	for _, size := range []int{0, 1, 15, 16, 17, 31, 32} {
		want := make([]byte, 32)
		copy(want, rising(size))
		d := made(t, small, nil, rising(size))
		image(t, d, want)
		reads(t, "ReadScratch", d.ReadScratch, 0, want[:16])
		reads(t, "ReadScratch", d.ReadScratch, 1, want[16:])
	}
	refused(t, small, nil, make([]byte, 33), nil, api.ErrImage)
	refused(t, device.Geometry{Block: 16}, nil, make([]byte, 1), nil, api.ErrImage)
	large := device.Geometry{Block: api.MaxBlock, Scratch: api.MaxScratch}
	all := rising(api.MaxBlock * api.MaxScratch)
	image(t, made(t, large, nil, all), all)
	refused(t, large, nil, append(all, 0), nil, api.ErrImage)
}

func TestNewTakesTheBoundsOfFaults(t *testing.T) {
	for kind := device.FaultInput; kind <= device.FaultCrash; kind++ {
		made(t, small, nil, nil,
			device.Fault{Kind: kind, Block: 0, Nth: 1, Keep: 0},
			device.Fault{Kind: kind, Block: api.MaxInput, Nth: api.MaxNth, Keep: 16})
	}
	most := slices.Repeat([]device.Fault{{Kind: device.FaultWrite, Nth: 1}}, api.MaxFaults)
	made(t, small, nil, nil, most...)
	made(t, device.Geometry{Block: 100}, nil, nil, device.Fault{Kind: device.FaultCrash, Nth: 1, Keep: 100})
}

func TestNewRefusesFaults(t *testing.T) {
	right := device.Fault{Kind: device.FaultInput, Block: 3, Nth: 2, Keep: 1}
	many := slices.Repeat([]device.Fault{right}, api.MaxFaults+1)
	refused(t, small, nil, nil, many, api.ErrFault)
	for kind := device.FaultInput; kind <= device.FaultCrash; kind++ {
		wrong := []device.Fault{
			{Kind: kind, Block: -1, Nth: 1},
			{Kind: kind, Block: math.MinInt, Nth: 1},
			{Kind: kind, Block: api.MaxInput + 1, Nth: 1},
			{Kind: kind, Nth: 0},
			{Kind: kind, Nth: -1},
			{Kind: kind, Nth: api.MaxNth + 1},
			{Kind: kind, Nth: 1, Keep: -1},
			{Kind: kind, Nth: 1, Keep: 17},
			{Kind: kind, Nth: 1, Keep: math.MaxInt},
		}
		for _, f := range wrong {
			refused(t, small, nil, nil, []device.Fault{f}, api.ErrFault)
			refused(t, small, nil, nil, []device.Fault{right, right, f}, api.ErrFault)
			refused(t, small, nil, nil, []device.Fault{f, right}, api.ErrFault)
		}
	}
	for _, kind := range []int{math.MinInt, -1, 0, 5, math.MaxInt} {
		refused(t, small, nil, nil, []device.Fault{{Kind: kind, Nth: 1}}, api.ErrFault)
	}
}

func TestNewNamesTheFirstError(t *testing.T) {
	wrong := []device.Fault{{}}
	input := make([]byte, api.MaxInput+1)
	scratch := make([]byte, 33)
	refused(t, device.Geometry{Block: 15, Scratch: 2}, input, scratch, wrong, api.ErrGeometry)
	refused(t, small, input, scratch, wrong, api.ErrInput)
	refused(t, small, nil, scratch, wrong, api.ErrImage)
	refused(t, small, nil, nil, wrong, api.ErrFault)
}

func TestNewCopiesItsLists(t *testing.T) {
	input, scratch := make([]byte, 20, 40), make([]byte, 10, 40)
	copy(input, rising(20))
	copy(scratch, rising(10))
	faults := make([]device.Fault, 1, 4)
	faults[0] = device.Fault{Kind: device.FaultInput, Block: 1, Nth: 2}
	d := made(t, small, input, scratch, faults...)
	whole := d.Image()
	for i := range input[:40] {
		input[:40][i] = 99
	}
	for i := range scratch[:40] {
		scratch[:40][i] = 99
	}
	faults[0] = device.Fault{Kind: device.FaultInput, Block: 0, Nth: 1}
	if !bytes.Equal(d.Input(), rising(20)) {
		t.Errorf("the input became %v", d.Input())
	}
	image(t, d, whole)
	reads(t, "ReadInput", d.ReadInput, 0, rising(20)[:16])
	reads(t, "ReadInput", d.ReadInput, 1, rising(20)[16:])
	readFails(t, "ReadInput", d.ReadInput, 1, api.ErrRead)
}

func TestNewChangesNoArgument(t *testing.T) {
	input, scratch := rising(40), rising(40)
	faults := slices.Repeat([]device.Fault{{Kind: device.FaultCrash, Nth: 2, Keep: 3}}, 4)
	d, e := device.New(small, input[:20], scratch[:10], faults[:1])
	if e != api.OK {
		t.Fatalf("New: %d", e)
	}
	writes(t, d, 0, full(7, 16), api.OK)
	writes(t, d, 1, full(7, 16), api.ErrDown)
	if !bytes.Equal(input, rising(40)) || !bytes.Equal(scratch, rising(40)) {
		t.Errorf("%v, %v", input, scratch)
	}
	for _, f := range faults {
		if f != (device.Fault{Kind: device.FaultCrash, Nth: 2, Keep: 3}) {
			t.Errorf("a fault became %v", f)
		}
	}
}

// P3.2

func TestReadInputGivesTheBlocks(t *testing.T) {
	for _, block := range []int{16, 17, 100, 1024} {
		for _, size := range []int{0, 1, block - 1, block, block + 1, 3 * block, 3*block + 5} {
			input := rising(size)
			d := made(t, device.Geometry{Block: block}, input, nil)
			var all []byte
			for b := range d.Blocks() {
				p, e := d.ReadInput(b)
				if e != api.OK || len(p) == 0 || b < d.Blocks()-1 && len(p) != block {
					t.Errorf("block %d of %d bytes: %d bytes, %d", b, size, len(p), e)
				}
				all = append(all, p...)
			}
			if !bytes.Equal(all, input) {
				t.Errorf("blocks of %d: the input of %d bytes isn't that of its blocks", block, size)
			}
			counts(t, d, device.Counts{Input: d.Blocks()})
			readFails(t, "ReadInput", d.ReadInput, d.Blocks(), api.ErrBlock)
		}
	}
}

func TestReadInputRefusesABlock(t *testing.T) {
	d := made(t, device.Geometry{Block: 16, Scratch: 9}, rising(20), nil)
	for _, b := range []int{math.MinInt, -1, 2, 3, 8, math.MaxInt / 16, math.MaxInt} {
		readFails(t, "ReadInput", d.ReadInput, b, api.ErrBlock)
	}
	counts(t, d, device.Counts{})
}

func TestFaultsStrikeReadsOfTheirOwnBlock(t *testing.T) {
	input := rising(48)
	d := made(t, device.Geometry{Block: 16, Scratch: 3}, input, rising(48),
		device.Fault{Kind: device.FaultInput, Block: 1, Nth: 2},
		device.Fault{Kind: device.FaultInput, Block: 1, Nth: 3},
		device.Fault{Kind: device.FaultInput, Block: 2, Nth: 1})
	for range 4 {
		reads(t, "ReadInput", d.ReadInput, 0, input[:16])
		reads(t, "ReadScratch", d.ReadScratch, 1, input[16:32])
	}
	reads(t, "ReadInput", d.ReadInput, 1, input[16:32])
	readFails(t, "ReadInput", d.ReadInput, 2, api.ErrRead)
	reads(t, "ReadInput", d.ReadInput, 2, input[32:])
	readFails(t, "ReadInput", d.ReadInput, 1, api.ErrRead)
	readFails(t, "ReadInput", d.ReadInput, 1, api.ErrRead)
	reads(t, "ReadInput", d.ReadInput, 1, input[16:32])
	counts(t, d, device.Counts{Input: 10, Scratch: 4, Struck: 3})
}

func TestRefusedReadsAreNotNumbered(t *testing.T) {
	d := made(t, small, rising(20), nil,
		device.Fault{Kind: device.FaultInput, Block: 2, Nth: 1},
		device.Fault{Kind: device.FaultInput, Block: 1, Nth: 2},
		device.Fault{Kind: device.FaultScratch, Block: 2, Nth: 1})
	for range 3 {
		readFails(t, "ReadInput", d.ReadInput, 2, api.ErrBlock)
		readFails(t, "ReadInput", d.ReadInput, -1, api.ErrBlock)
		readFails(t, "ReadScratch", d.ReadScratch, 2, api.ErrBlock)
	}
	reads(t, "ReadInput", d.ReadInput, 1, rising(20)[16:])
	readFails(t, "ReadInput", d.ReadInput, 1, api.ErrRead)
	counts(t, d, device.Counts{Input: 2, Struck: 1})
}

// P3.3

func TestReadScratchGivesWholeBlocks(t *testing.T) {
	d := made(t, device.Geometry{Block: 20, Scratch: 3}, rising(5), rising(25))
	want := make([]byte, 60)
	copy(want, rising(25))
	for b := range 3 {
		reads(t, "ReadScratch", d.ReadScratch, b, want[20*b:20*b+20])
	}
	for _, b := range []int{math.MinInt, -1, 3, 4, math.MaxInt/20 + 1, math.MaxInt} {
		readFails(t, "ReadScratch", d.ReadScratch, b, api.ErrBlock)
	}
	counts(t, d, device.Counts{Scratch: 3})
	none := made(t, device.Geometry{Block: 20}, rising(50), nil)
	readFails(t, "ReadScratch", none.ReadScratch, 0, api.ErrBlock)
	counts(t, none, device.Counts{})
}

func TestFaultsStrikeReadsOfTheScratchRegion(t *testing.T) {
	d := made(t, small, rising(32), rising(32),
		device.Fault{Kind: device.FaultScratch, Block: 1, Nth: 1, Keep: 9},
		device.Fault{Kind: device.FaultScratch, Block: 1, Nth: 3})
	reads(t, "ReadInput", d.ReadInput, 1, rising(32)[16:])
	reads(t, "ReadScratch", d.ReadScratch, 0, rising(16))
	readFails(t, "ReadScratch", d.ReadScratch, 1, api.ErrRead)
	writes(t, d, 1, full(7, 16), api.OK)
	reads(t, "ReadScratch", d.ReadScratch, 1, full(7, 16))
	readFails(t, "ReadScratch", d.ReadScratch, 1, api.ErrRead)
	reads(t, "ReadScratch", d.ReadScratch, 1, full(7, 16))
	counts(t, d, device.Counts{Input: 1, Scratch: 5, Writes: 1, Struck: 2})
}

func TestReadsAreNewMemory(t *testing.T) {
	d := made(t, small, rising(20), rising(32))
	spoil := func(p []byte, e api.Errno) {
		if e != api.OK {
			t.Errorf("a read: %d", e)
		}
		p = p[:cap(p)]
		for i := range p {
			p[i] = 200
		}
	}
	for range 2 {
		for b := range 2 {
			spoil(d.ReadInput(b))
			spoil(d.ReadScratch(b))
		}
		spoil(d.Input(), api.OK)
		spoil(d.Image(), api.OK)
	}
	if !bytes.Equal(d.Input(), rising(20)) {
		t.Errorf("the input became %v", d.Input())
	}
	image(t, d, rising(32))
	reads(t, "ReadInput", d.ReadInput, 0, rising(16))
	reads(t, "ReadScratch", d.ReadScratch, 1, rising(32)[16:])
}

// P3.4

func TestWriteScratchHoldsTheData(t *testing.T) {
	d := made(t, device.Geometry{Block: 16, Scratch: 3}, rising(48), rising(48))
	data := full(7, 16)
	writes(t, d, 1, data, api.OK)
	want := slices.Concat(rising(48)[:16], data, rising(48)[32:])
	image(t, d, want)
	reads(t, "ReadScratch", d.ReadScratch, 1, data)
	data[0] = 8
	image(t, d, want)
	writes(t, d, 2, full(9, 16), api.OK)
	writes(t, d, 0, full(0, 16), api.OK)
	image(t, d, slices.Concat(full(0, 16), full(7, 16), full(9, 16)))
	if !bytes.Equal(d.Input(), rising(48)) {
		t.Errorf("the input became %v", d.Input())
	}
	counts(t, d, device.Counts{Scratch: 1, Writes: 3})
}

func TestWriteScratchChangesNoArgument(t *testing.T) {
	room := rising(40)
	d := made(t, small, nil, nil, device.Fault{Kind: device.FaultCrash, Nth: 3, Keep: 5}, device.Fault{Kind: device.FaultWrite, Nth: 2})
	for _, want := range []api.Errno{api.OK, api.ErrWrite, api.ErrDown, api.ErrDown} {
		writes(t, d, 1, room[:16], want)
	}
	if !bytes.Equal(room, rising(40)) {
		t.Errorf("the data became %v", room)
	}
}

func TestWriteScratchRefuses(t *testing.T) {
	d := made(t, small, rising(100), rising(32), device.Fault{Kind: device.FaultCrash, Nth: 1})
	for _, b := range []int{math.MinInt, -1, 2, 3, math.MaxInt / 16, math.MaxInt} {
		writes(t, d, b, full(7, 16), api.ErrBlock)
		writes(t, d, b, full(7, 3), api.ErrBlock)
	}
	for _, size := range []int{0, 1, 15, 17, 32, 1000} {
		writes(t, d, 1, full(7, size), api.ErrSize)
	}
	image(t, d, rising(32))
	counts(t, d, device.Counts{})
	if d.Down() {
		t.Error("a write that was refused was struck")
	}
	writes(t, d, 1, full(7, 16), api.ErrDown)
	writes(t, d, 2, full(7, 3), api.ErrDown)
}

func TestAWriteThatFailsWritesNothing(t *testing.T) {
	d := made(t, small, nil, rising(32),
		device.Fault{Kind: device.FaultWrite, Block: 1, Nth: 2, Keep: 5},
		device.Fault{Kind: device.FaultWrite, Nth: 3})
	writes(t, d, 1, full(7, 16), api.OK)
	writes(t, d, 0, full(8, 16), api.ErrWrite)
	writes(t, d, 1, full(9, 16), api.ErrWrite)
	image(t, d, slices.Concat(rising(16), full(7, 16)))
	writes(t, d, 0, full(8, 16), api.OK)
	image(t, d, slices.Concat(full(8, 16), full(7, 16)))
	counts(t, d, device.Counts{Writes: 4, Struck: 2})
	if d.Down() {
		t.Error("a write that failed took the device down")
	}
}

func TestACrashTearsTheBlock(t *testing.T) {
	for keep := range 17 {
		d := made(t, small, rising(20), rising(32), device.Fault{Kind: device.FaultCrash, Block: 0, Nth: 2, Keep: keep})
		writes(t, d, 0, full(6, 16), api.OK)
		writes(t, d, 1, full(7, 16), api.ErrDown)
		want := slices.Concat(full(6, 16), full(7, keep), rising(32)[16+keep:])
		image(t, d, want)
		counts(t, d, device.Counts{Writes: 2, Struck: 1})
		if !d.Down() {
			t.Error("the device is up after a crash")
		}
		readFails(t, "ReadInput", d.ReadInput, 0, api.ErrDown)
		readFails(t, "ReadInput", d.ReadInput, -1, api.ErrDown)
		readFails(t, "ReadScratch", d.ReadScratch, 0, api.ErrDown)
		readFails(t, "ReadScratch", d.ReadScratch, 2, api.ErrDown)
		writes(t, d, 0, full(8, 16), api.ErrDown)
		writes(t, d, 5, full(8, 1), api.ErrDown)
		image(t, d, want)
		counts(t, d, device.Counts{Writes: 2, Struck: 1})
	}
}

func TestTheFirstCrashOfTheListCounts(t *testing.T) {
	fails := device.Fault{Kind: device.FaultWrite, Nth: 1, Keep: 1}
	crash := func(nth, keep int) device.Fault {
		return device.Fault{Kind: device.FaultCrash, Nth: nth, Keep: keep}
	}
	lists := [][]device.Fault{
		{crash(1, 5)},
		{crash(1, 5), crash(1, 9), crash(1, 2)},
		{crash(2, 9), crash(1, 5), crash(1, 0), crash(1, 16)},
		{fails, crash(1, 5), fails, crash(1, 9)},
		{crash(1, 5), fails},
		{fails, fails, crash(1, 5)},
	}
	for _, faults := range lists {
		d := made(t, small, nil, rising(32), faults...)
		writes(t, d, 0, full(7, 16), api.ErrDown)
		image(t, d, slices.Concat(full(7, 5), rising(32)[5:]))
		counts(t, d, device.Counts{Writes: 1, Struck: 1})
	}
}

func TestManyFaultsAtOnceStrikeOnce(t *testing.T) {
	faults := slices.Concat(
		slices.Repeat([]device.Fault{{Kind: device.FaultInput, Block: 1, Nth: 1}}, 20),
		slices.Repeat([]device.Fault{{Kind: device.FaultScratch, Block: 1, Nth: 1}}, 20),
		slices.Repeat([]device.Fault{{Kind: device.FaultWrite, Block: 1, Nth: 1}}, 24))
	d := made(t, small, rising(32), rising(32), faults...)
	readFails(t, "ReadInput", d.ReadInput, 1, api.ErrRead)
	counts(t, d, device.Counts{Input: 1, Struck: 1})
	readFails(t, "ReadScratch", d.ReadScratch, 1, api.ErrRead)
	counts(t, d, device.Counts{Input: 1, Scratch: 1, Struck: 2})
	writes(t, d, 1, full(7, 16), api.ErrWrite)
	counts(t, d, device.Counts{Input: 1, Scratch: 1, Writes: 1, Struck: 3})
	reads(t, "ReadInput", d.ReadInput, 1, rising(32)[16:])
	reads(t, "ReadScratch", d.ReadScratch, 1, rising(32)[16:])
	writes(t, d, 1, full(7, 16), api.OK)
	counts(t, d, device.Counts{Input: 2, Scratch: 2, Writes: 2, Struck: 3})
}

func TestFaultsOfOneSortStrikeNoOther(t *testing.T) {
	d := made(t, small, rising(32), rising(32),
		device.Fault{Kind: device.FaultInput, Block: 0, Nth: 1},
		device.Fault{Kind: device.FaultWrite, Block: 0, Nth: 4})
	reads(t, "ReadScratch", d.ReadScratch, 0, rising(16))
	for range 3 {
		writes(t, d, 0, rising(16), api.OK)
	}
	readFails(t, "ReadInput", d.ReadInput, 0, api.ErrRead)
	for range 5 {
		reads(t, "ReadInput", d.ReadInput, 0, rising(16))
		reads(t, "ReadScratch", d.ReadScratch, 0, rising(16))
	}
	writes(t, d, 1, full(7, 16), api.ErrWrite)
	image(t, d, rising(32))
}

// P3.5

func TestTheWholeRegionsCountAsNoRead(t *testing.T) {
	d := made(t, small, rising(20), rising(32),
		device.Fault{Kind: device.FaultInput, Block: 0, Nth: 1},
		device.Fault{Kind: device.FaultScratch, Block: 0, Nth: 1},
		device.Fault{Kind: device.FaultCrash, Nth: 1, Keep: 1})
	for range 3 {
		if !bytes.Equal(d.Input(), rising(20)) || d.Blocks() != 2 || d.Geometry() != small || d.Down() {
			t.Errorf("%v, %d blocks, %v", d.Input(), d.Blocks(), d.Geometry())
		}
		image(t, d, rising(32))
	}
	counts(t, d, device.Counts{})
	readFails(t, "ReadInput", d.ReadInput, 0, api.ErrRead)
	readFails(t, "ReadScratch", d.ReadScratch, 0, api.ErrRead)
	writes(t, d, 0, full(7, 16), api.ErrDown)
	for range 2 {
		if !bytes.Equal(d.Input(), rising(20)) || d.Blocks() != 2 || d.Geometry() != small || !d.Down() {
			t.Errorf("down: %v, %d blocks, %v", d.Input(), d.Blocks(), d.Geometry())
		}
		image(t, d, slices.Concat(full(7, 1), rising(32)[1:]))
		counts(t, d, device.Counts{Input: 1, Scratch: 1, Writes: 1, Struck: 3})
	}
}

func TestBlocksHoldAByte(t *testing.T) {
	for size, want := range map[int]int{0: 0, 1: 1, 15: 1, 16: 1, 17: 2, 32: 2, 33: 3} {
		if got := made(t, small, rising(size), nil).Blocks(); got != want {
			t.Errorf("%d bytes: %d blocks, want %d", size, got, want)
		}
	}
}

// P3.6

func TestRestartBeginsAnew(t *testing.T) {
	d := made(t, small, rising(20), rising(32),
		device.Fault{Kind: device.FaultInput, Block: 0, Nth: 1},
		device.Fault{Kind: device.FaultScratch, Block: 0, Nth: 1},
		device.Fault{Kind: device.FaultCrash, Nth: 1, Keep: 1})
	readFails(t, "ReadInput", d.ReadInput, 0, api.ErrRead)
	writes(t, d, 0, full(7, 16), api.ErrDown)
	was := d.Counts()
	for _, size := range []int{0, 1, 20, 32} {
		n, e := d.Restart(rising(size))
		if e != api.OK || n == nil {
			t.Fatalf("Restart: %d", e)
		}
		want := make([]byte, 32)
		copy(want, rising(size))
		image(t, n, want)
		counts(t, n, device.Counts{})
		if n.Down() || n.Geometry() != small || n.Blocks() != 2 || !bytes.Equal(n.Input(), rising(20)) {
			t.Errorf("the new one: %v, %v, %v", n.Down(), n.Geometry(), n.Input())
		}
		reads(t, "ReadInput", n.ReadInput, 0, rising(16))
		reads(t, "ReadScratch", n.ReadScratch, 0, want[:16])
		writes(t, n, 0, full(9, 16), api.OK)
		counts(t, n, device.Counts{Input: 1, Scratch: 1, Writes: 1})
		if !d.Down() {
			t.Error("the old one came up")
		}
		counts(t, d, was)
		image(t, d, slices.Concat(full(7, 1), rising(32)[1:]))
	}
}

func TestRestartOfALiveDevice(t *testing.T) {
	scratch := rising(32)
	d := made(t, small, rising(20), nil, device.Fault{Kind: device.FaultInput, Block: 0, Nth: 2})
	reads(t, "ReadInput", d.ReadInput, 0, rising(16))
	n, e := d.Restart(scratch[:20])
	if e != api.OK {
		t.Fatalf("Restart: %d", e)
	}
	reads(t, "ReadInput", n.ReadInput, 0, rising(16))
	reads(t, "ReadInput", n.ReadInput, 0, rising(16))
	writes(t, n, 1, full(7, 16), api.OK)
	writes(t, d, 0, full(8, 16), api.OK)
	readFails(t, "ReadInput", d.ReadInput, 0, api.ErrRead)
	image(t, d, slices.Concat(full(8, 16), full(0, 16)))
	image(t, n, slices.Concat(rising(16), full(7, 16)))
	counts(t, d, device.Counts{Input: 2, Writes: 1, Struck: 1})
	counts(t, n, device.Counts{Input: 2, Writes: 1})
	if !bytes.Equal(scratch, rising(32)) {
		t.Errorf("the scratch handed in became %v", scratch)
	}
	scratch[0] = 99
	image(t, n, slices.Concat(rising(16), full(7, 16)))
}

func TestRestartRefusesAnImage(t *testing.T) {
	d := made(t, small, rising(20), rising(32), device.Fault{Kind: device.FaultInput, Block: 0, Nth: 1})
	for _, size := range []int{33, 64, 5000} {
		if n, e := d.Restart(make([]byte, size)); n != nil || e != api.ErrImage {
			t.Errorf("Restart(%d bytes) = %v, %d", size, n, e)
		}
	}
	image(t, d, rising(32))
	readFails(t, "ReadInput", d.ReadInput, 0, api.ErrRead)
	none := made(t, device.Geometry{Block: 16}, nil, nil)
	if n, e := none.Restart([]byte{0}); n != nil || e != api.ErrImage {
		t.Errorf("Restart = %v, %d", n, e)
	}
	if n, e := none.Restart(nil); n == nil || e != api.OK {
		t.Errorf("Restart = %v, %d", n, e)
	}
}

// The chapter's examples.

func TestExamples(t *testing.T) {
	d := made(t, small, rising(20), nil)
	if d.Blocks() != 2 {
		t.Errorf("example 1: %d blocks", d.Blocks())
	}
	reads(t, "ReadInput", d.ReadInput, 1, rising(20)[16:])
	readFails(t, "ReadInput", d.ReadInput, 2, api.ErrBlock)
	reads(t, "ReadScratch", d.ReadScratch, 1, make([]byte, 16))
	writes(t, d, 0, full(7, 15), api.ErrSize)
	writes(t, d, 2, full(7, 16), api.ErrBlock)

	d = made(t, small, rising(20), nil, device.Fault{Kind: device.FaultInput, Block: 1, Nth: 2})
	reads(t, "ReadInput", d.ReadInput, 1, rising(20)[16:])
	readFails(t, "ReadInput", d.ReadInput, 1, api.ErrRead)
	reads(t, "ReadInput", d.ReadInput, 1, rising(20)[16:])
	counts(t, d, device.Counts{Input: 3, Struck: 1})

	d = made(t, small, rising(20), nil, device.Fault{Kind: device.FaultCrash, Nth: 1, Keep: 5})
	writes(t, d, 1, full(7, 16), api.ErrDown)
	image(t, d, slices.Concat(full(0, 16), full(7, 5), full(0, 11)))
	if !d.Down() {
		t.Error("example 3: the device is up")
	}
	readFails(t, "ReadInput", d.ReadInput, 0, api.ErrDown)
	readFails(t, "ReadScratch", d.ReadScratch, 0, api.ErrDown)
	writes(t, d, 0, full(7, 16), api.ErrDown)
	counts(t, d, device.Counts{Writes: 1, Struck: 1})

	refused(t, device.Geometry{Block: 15}, nil, nil, nil, api.ErrGeometry)
	refused(t, device.Geometry{Block: 16}, nil, []byte{1}, nil, api.ErrImage)
}
