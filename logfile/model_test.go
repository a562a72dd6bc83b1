package logfile_test

import (
	"bytes"
	"encoding/binary"
	"slices"
	"testing"

	"proctor/api"
	"proctor/logfile"
	"proctor/record"
)

// dice is a source of numbers that is the same in every run.
type dice uint64

func (d *dice) below(n int) int {
	*d = *d*6364136223846793005 + 1442695040888963407
	return int(uint64(*d) >> 33 % uint64(n))
}

func (d *dice) txn() api.Txn {
	t := api.Txn{Session: d.below(200), Seq: d.below(3), Start: d.below(1 << 20), End: d.below(1 << 30), Invoke: d.below(9), Return: d.below(99), Status: d.below(2)}
	for range d.below(4) * d.below(5) {
		op := api.Op{Kind: 1 + d.below(3), Key: "abcdefgh"[:1+d.below(8)]}
		if op.Kind == api.OpWrite || op.Kind == api.OpRead && d.below(2) == 0 {
			op.Found, op.Value = true, "ABCDEFGHIJKLMNOP"[:d.below(17)]
		}
		t.Ops = append(t.Ops, op)
	}
	return t
}

// log is a log, often spoilt by a change of a few bytes.
func (d *dice) log() []byte {
	p := magic()
	n := d.below(6)
	if d.below(20) == 0 {
		n = api.MaxTxns + d.below(3) - 1
	}
	for range n {
		body, _ := record.Encode(d.txn())
		p = append(binary.AppendUvarint(p, uint64(len(body))), body...)
	}
	p = binary.AppendUvarint(append(p, 0), uint64(n))
	// Spoilt ones lie near the ends, where the log's own items are.
	at := func() int {
		return min(d.below(len(p)+1), d.below(len(p)+1), d.below(30)+d.below(2)*len(p))
	}
	switch d.below(12) {
	case 0:
		p = p[:at()]
	case 1, 2, 3:
		i := min(at(), len(p)-1)
		p[i] = byte(d.below(256))
	case 4:
		i := at()
		p = slices.Insert(p, i, byte(d.below(256)))
	case 5:
		i := min(at(), len(p)-1)
		p = slices.Delete(p, i, i+1)
	case 6:
		p = append(p, make([]byte, 1+d.below(3))...)
	case 7:
		p = append(p[:len(p)-1], byte(d.below(8)))
	case 8:
		p = append(p[:len(p)-1], 129, 32)[:len(p)+d.below(2)]
	case 9:
		i := at()
		p = slices.Insert(p, i, bytes.Repeat([]byte{255}, d.below(10))...)
	}
	return p
}

// number reads the number at the beginning of p, and tells its size too.
func number(p []byte, most int) (n int, size int, e api.Errno) {
	end := slices.IndexFunc(p, func(b byte) bool { return b < 128 })
	switch {
	case end > 7, end < 0 && len(p) > 7:
		return 0, 0, api.ErrLong
	case end < 0:
		return 0, 0, api.ErrEnd
	case end > 0 && p[end] == 0:
		return 0, 0, api.ErrLong
	}
	u, size := binary.Uvarint(p)
	if u > uint64(most) {
		return 0, 0, api.ErrRange
	}
	return int(u), size, api.OK
}

// reading is a whole log read by the model: its entries and where they end,
// and then the place and the fault, or the place behind the foot. A fault that
// more bytes could mend is open; it is then read up to upTo.
type reading struct {
	txns  []api.Txn
	ends  []int
	place int
	fault api.Errno
	open  bool
	upTo  int
}

func read(p []byte) (r reading) {
	for i, b := range []byte("PRO\x01") {
		if i == len(p) {
			r.place, r.fault, r.open = i, api.ErrEnd, true
			return r
		}
		if p[i] != b {
			r.place, r.fault = i, api.ErrMagic
			return r
		}
	}
	for i := 4; ; {
		r.place, r.upTo = i, i
		n, size, e := number(p[i:], 512)
		if e != api.OK {
			r.fault, r.open = e, e == api.ErrEnd
			return r
		}
		if n == 0 {
			return r.foot(p, i+size)
		}
		if len(r.txns) == 4096 {
			r.fault = api.ErrTxns
			return r
		}
		if i+size+n > len(p) {
			r.fault, r.open = api.ErrEnd, true
			return r
		}
		txn, place, e := record.Decode(p[i+size : i+size+n])
		if e != api.OK {
			r.place, r.fault = i+size+place, e
			return r
		}
		i += size + n
		r.txns, r.ends = append(r.txns, txn), append(r.ends, i)
	}
}

func (r reading) foot(p []byte, i int) reading {
	n, size, e := number(p[i:], 4096)
	r.place = i
	switch {
	case e != api.OK:
		r.fault, r.open = e, e == api.ErrEnd
	case n != len(r.txns):
		r.fault = api.ErrTotal
	default:
		r.place, r.upTo = i+size, i+size
		if i+size < len(p) {
			r.fault = api.ErrTail
		}
	}
	return r
}

// P7.2, and P7.1 at what can be read: one list has one log.
func TestModelDecode(t *testing.T) {
	d := dice(7)
	seen := map[api.Errno]int{}
	for range 3000 {
		p := d.log()
		want := read(p)
		seen[want.fault]++
		list, place, e := logfile.Decode(p)
		if e != want.fault {
			t.Fatalf("%v: %d; want %d", p, e, want.fault)
		}
		if e != api.OK {
			if len(list) != 0 || place != want.place {
				t.Fatalf("%v: %v at %d; want %d", p, list, place, want.place)
			}
			continue
		}
		if !sameList(list, want.txns) || place != 0 {
			t.Fatalf("%v: %v at %d; want %v", p, list, place, want.txns)
		}
		if back, _, _ := logfile.Encode(list); !bytes.Equal(back, p) {
			t.Fatalf("%v is written as %v", p, back)
		}
	}
	for _, e := range []api.Errno{api.OK, api.ErrEnd, api.ErrLong, api.ErrRange, api.ErrTag, api.ErrTail, api.ErrMagic, api.ErrTxns, api.ErrTotal} {
		if seen[e] < 20 {
			t.Errorf("answer %d was seen %d times only", e, seen[e])
		}
	}
}

// scan is a model scanner: it reads all that was fed anew each time.
type scan struct {
	all           []byte
	ended, gone   bool
	offset, count int
	fault         api.Errno
	behindFoot    bool
	waiting       int
}

func (m *scan) next() (api.Txn, bool, api.Errno) {
	if m.gone {
		return api.Txn{}, false, m.fault
	}
	r := read(m.all)
	if m.count < len(r.txns) {
		m.count++
		m.offset = r.ends[m.count-1]
		return r.txns[m.count-1], true, api.OK
	}
	if r.open && !m.ended {
		m.waiting++
		m.offset = r.upTo
		return api.Txn{}, false, api.OK
	}
	m.gone = r.fault != api.OK
	m.fault, m.offset, m.behindFoot = r.fault, r.place, true
	return api.Txn{}, false, r.fault
}

func (m *scan) finished() bool {
	return m.behindFoot && !m.gone && m.ended && m.offset == len(m.all)
}

// P7.3 to P7.5: pieces of any size, and calls in any order.
func TestModelScanner(t *testing.T) {
	d := dice(77)
	waits, faults, whole := 0, 0, 0
	for range 3000 {
		p := d.log()
		if len(p) > 400 {
			p = p[:400]
		}
		s, m := logfile.NewScanner(), &scan{}
		piece := 1 + d.below(40)
		for range 200 {
			switch d.below(8) {
			case 0, 1, 2:
				n := min(len(p), d.below(piece+1))
				want := api.OK
				if m.ended {
					want = api.ErrOver
				} else {
					m.all = append(m.all, p[:n]...)
				}
				if e := s.Feed(p[:n]); e != want {
					t.Fatalf("Feed = %d; want %d", e, want)
				}
				p = p[n:]
			case 3:
				if len(p) > 0 && d.below(100) > 0 {
					break
				}
				want := api.OK
				if m.ended {
					want = api.ErrOver
				}
				m.ended = true
				if e := s.End(); e != want {
					t.Fatalf("End = %d; want %d", e, want)
				}
			default:
				wantTxn, wantOk, want := m.next()
				txn, ok, e := s.Next()
				if !sameTxn(txn, wantTxn) || ok != wantOk || e != want {
					t.Fatalf("%v: Next = %v, %v, %d; want %v, %v, %d", m.all, txn, ok, e, wantTxn, wantOk, want)
				}
			}
			if got, want := stateOf(s), (state{m.offset, m.count, m.finished()}); got != want {
				t.Fatalf("%v: %v; want %v", m.all, got, want)
			}
		}
		waits += m.waiting
		if m.gone {
			faults++
		}
		if m.finished() {
			whole++
		}
	}
	if waits < 1000 || faults < 1000 || whole < 500 {
		t.Errorf("waited %d times, %d faults, %d whole", waits, faults, whole)
	}
}

// However a log is cut, the scanner answers as Decode does.
func TestPieces(t *testing.T) {
	d := dice(777)
	for range 500 {
		p := d.log()
		list, place, want := logfile.Decode(p)
		for _, piece := range []int{1, 7, 100, 1 << 20} {
			s := logfile.NewScanner()
			var got []api.Txn
			for part := range slices.Chunk(p, piece) {
				s.Feed(part)
				got = append(got, drain(s)...)
			}
			s.End()
			got = append(got, drain(s)...)
			_, ok, e := s.Next()
			if ok || e != want || s.Finished() != (want == api.OK) {
				t.Fatalf("%v by %d: %v, %d; want %d", p, piece, ok, e, want)
			}
			if e == api.OK && (!sameList(got, list) || s.Offset() != len(p)) || e != api.OK && s.Offset() != place || s.Count() != len(got) {
				t.Fatalf("%v by %d: %v at %d; want %v at %d", p, piece, got, s.Offset(), list, place)
			}
		}
	}
}
