package wire_test

import (
	"bytes"
	"encoding/binary"
	"testing"

	"proctor/api"
	"proctor/wire"
)

// dice is a source of numbers that is the same in every run.
type dice uint64

func (d *dice) below(n int) int {
	*d = *d*6364136223846793005 + 1442695040888963407
	return int(uint64(*d) >> 33 % uint64(n))
}

// pick gives mostly bytes at the edges of the form.
func (d *dice) pick() byte {
	edges := []byte{0, 1, 2, 3, 127, 128, 128, 129, 255, 255}
	if i := d.below(len(edges) + 2); i < len(edges) {
		return edges[i]
	}
	return byte(d.below(256))
}

// model keeps the bytes that lie ahead, and reads a number by the library's way.
type model struct {
	ahead []byte
	past  int
	fault api.Errno
}

func (m *model) head() (int, int, api.Errno) {
	n, size := binary.Uvarint(m.ahead[:min(8, len(m.ahead))])
	switch {
	case size <= 0 && len(m.ahead) < 8:
		return 0, 0, api.ErrEnd
	case size <= 0, len(binary.AppendUvarint(nil, n)) != size:
		return 0, 0, api.ErrLong
	}
	return int(n), size, api.OK
}

// read answers the bytes of the item (without the length of a text), or the fault.
func (m *model) read(kind, a, b int) ([]byte, api.Errno) {
	if m.fault != api.OK {
		return nil, m.fault
	}
	skip, size, fault := m.item(kind, a, b)
	if m.fault = fault; fault != api.OK {
		return nil, fault
	}
	item := m.ahead[skip : skip+size]
	m.ahead = m.ahead[skip+size:]
	m.past += skip + size
	return item, api.OK
}

func (m *model) item(kind, a, b int) (int, int, api.Errno) {
	n, head, fault := m.head()
	switch {
	case kind == readByte && len(m.ahead) == 0:
		return 0, 0, api.ErrEnd
	case kind == readByte:
		return 0, 1, api.OK
	case kind == readTake && a < 0:
		return 0, 0, api.ErrRange
	case kind == readTake && a > len(m.ahead):
		return 0, 0, api.ErrEnd
	case kind == readTake:
		return 0, a, api.OK
	case fault != api.OK:
		return 0, 0, fault
	case n > b || kind == readText && n < a:
		return 0, 0, api.ErrRange
	case kind == readNumber:
		return 0, head, api.OK
	case n > len(m.ahead)-head:
		return 0, 0, api.ErrEnd
	}
	return head, n, api.OK
}

const (
	readByte = iota
	readNumber
	readText
	readTake
	readKinds
)

// read does one call, and writes what it answers as the bytes of the item.
func read(c *wire.Cursor, kind, a, b int) ([]byte, api.Errno) {
	switch kind {
	case readByte:
		v, e := c.Byte()
		if e != api.OK {
			return nil, e
		}
		return []byte{v}, e
	case readNumber:
		n, e := c.Number(b)
		if e != api.OK {
			return nil, e
		}
		return binary.AppendUvarint(nil, uint64(n)), e
	case readText:
		s, e := c.Text(a, b)
		return []byte(s), e
	}
	return c.Take(a)
}

// All reading promises: a cursor answers as a plain list that is eaten up.
func TestModel(t *testing.T) {
	d := dice(5)
	var seen [readKinds][api.ErrRange + 1]int
	for range 20000 {
		data := make([]byte, d.below(24))
		for i := range data {
			data[i] = d.pick()
		}
		c, m := wire.Open(data), &model{ahead: data}
		for range 6 {
			kind, a, b := d.below(readKinds), d.below(5)-1, []int{-1, 0, 1, 3, 127, 300, api.MaxNumber}[d.below(7)]
			fresh := m.fault == api.OK
			want, wantErr := m.read(kind, a, b)
			got, e := read(c, kind, a, b)
			if !bytes.Equal(got, want) || e != wantErr {
				t.Fatalf("%v: call %d (%d, %d) = %v, %d; want %v, %d", data, kind, a, b, got, e, want, wantErr)
			}
			stands(t, c, m.past, len(m.ahead), m.fault)
			if fresh {
				seen[kind][e]++
			}
		}
	}
	for kind, faults := range [readKinds][]api.Errno{
		readByte:   {api.OK, api.ErrEnd},
		readNumber: {api.OK, api.ErrEnd, api.ErrLong, api.ErrRange},
		readText:   {api.OK, api.ErrEnd, api.ErrLong, api.ErrRange},
		readTake:   {api.OK, api.ErrEnd, api.ErrRange},
	} {
		for _, e := range faults {
			if seen[kind][e] < 50 {
				t.Errorf("call %d: answer %d was seen %d times only", kind, e, seen[kind][e])
			}
		}
	}
}

// P5.1, P5.4: what is written is read back, and no other bytes are read so:
// a number that can be read is written with the very bytes that were read.
func TestOneForm(t *testing.T) {
	d := dice(50)
	for range 20000 {
		n := d.below(1<<30)<<26 + d.below(1<<26)
		n >>= d.below(57)
		p, e := wire.Append(nil, n)
		if e != api.OK || len(p) != wire.Size(n) || !bytes.Equal(p, binary.AppendUvarint(nil, uint64(n))) {
			t.Fatalf("Append(nil, %d) = %v, %d", n, p, e)
		}
		c := wire.Open(p)
		readsNumber(t, c, n, n, api.OK)
		stands(t, c, len(p), 0, api.OK)
	}
	read := 0
	for range 20000 {
		data := make([]byte, 1+d.below(9))
		for i := range data {
			data[i] = d.pick()
		}
		c := wire.Open(data)
		n, e := c.Number(api.MaxNumber)
		if e != api.OK {
			continue
		}
		read++
		if p, e := wire.Append(nil, n); e != api.OK || !bytes.Equal(p, data[:c.Offset()]) {
			t.Fatalf("%v: %d has also the form %v", data, n, p)
		}
	}
	if read < 1000 {
		t.Errorf("only %d numbers were read", read)
	}
}
