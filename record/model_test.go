package record_test

import (
	"bytes"
	"encoding/binary"
	"testing"

	"proctor/api"
	"proctor/record"
)

// dice is a source of numbers that is the same in every run.
type dice uint64

func (d *dice) below(n int) int {
	*d = *d*6364136223846793005 + 1442695040888963407
	return int(uint64(*d) >> 33 % uint64(n))
}

func (d *dice) text(most int) string {
	b := make([]byte, d.below(most+1))
	for i := range b {
		b[i] = byte(d.below(256))
	}
	return string(b)
}

// op is mostly right.
func (d *dice) op() api.Op {
	op := api.Op{Kind: 1 + d.below(3), Key: "k" + d.text(api.MaxKey-1)}
	if op.Kind == api.OpWrite || op.Kind == api.OpRead && d.below(2) == 0 {
		op.Found, op.Value = true, d.text(api.MaxValue)
	}
	switch d.below(100) {
	case 0:
		op.Found = !op.Found
	case 1:
		op.Kind = d.below(6) - 1
	case 2:
		op.Key = d.text(2 * api.MaxKey)
	case 3:
		op.Value = d.text(2 * api.MaxValue)
	}
	return op
}

// number is mostly from 0 to most, of any size.
func (d *dice) number(most int) int {
	if d.below(60) == 0 {
		return []int{-1, most + 1}[d.below(2)]
	}
	return (d.below(1<<30)<<20 + d.below(1<<20)) >> d.below(50) % (most + 1)
}

func (d *dice) txn() api.Txn {
	t := api.Txn{
		Session: d.number(api.MaxId), Seq: d.number(api.MaxId),
		Start: d.number(api.MaxTime), End: d.number(api.MaxTime),
		Invoke: d.number(api.MaxTime), Return: d.number(api.MaxTime),
		Status: d.number(1),
	}
	for range d.below(19) {
		t.Ops = append(t.Ops, d.op())
	}
	return t
}

// rightOp says an operation's rule kind by kind.
func rightOp(op api.Op) bool {
	size := len(op.Key) >= 1 && len(op.Key) <= 8 && len(op.Value) <= 16
	switch op.Kind {
	case api.OpRead:
		return size && (op.Found || len(op.Value) == 0)
	case api.OpWrite:
		return size && op.Found
	case api.OpDelete:
		return size && !op.Found && len(op.Value) == 0
	}
	return false
}

func modelValid(t api.Txn) api.Errno {
	for _, f := range fields() {
		if n := *f.in(&t); n < 0 || n > f.most {
			return api.ErrField
		}
	}
	if len(t.Ops) > 16 {
		return api.ErrOps
	}
	for _, op := range t.Ops {
		if !rightOp(op) {
			return api.ErrOp
		}
	}
	return api.OK
}

func modelBody(t api.Txn) []byte {
	var p []byte
	for _, f := range fields() {
		p = binary.AppendUvarint(p, uint64(*f.in(&t)))
	}
	p = append(p, byte(len(t.Ops)))
	for _, op := range t.Ops {
		p = append(p, map[api.Op]byte{
			{Kind: api.OpRead, Found: true}:  1,
			{Kind: api.OpRead}:               2,
			{Kind: api.OpWrite, Found: true}: 3,
			{Kind: api.OpDelete}:             4,
		}[api.Op{Kind: op.Kind, Found: op.Found}])
		p = append(append(p, byte(len(op.Key))), op.Key...)
		if op.Found {
			p = append(append(p, byte(len(op.Value))), op.Value...)
		}
	}
	return p
}

// P6.1, and P6.2 at what was written.
func TestModelWriting(t *testing.T) {
	d := dice(6)
	seen := map[api.Errno]int{}
	for range 20000 {
		txn := d.txn()
		want := modelValid(txn)
		seen[want]++
		if want != api.OK {
			refuses(t, "by the model", txn, want)
		} else {
			takes(t, "by the model", txn, modelBody(txn))
		}
		if t.Failed() {
			t.Fatalf("%+v", txn)
		}
	}
	for _, e := range []api.Errno{api.OK, api.ErrField, api.ErrOps, api.ErrOp} {
		if seen[e] < 500 {
			t.Errorf("answer %d was seen %d times only", e, seen[e])
		}
	}
}

// eater reads a body item by item, and stays at the first that can't be read.
type eater struct {
	body  []byte
	place int
	fault api.Errno
}

func (m *eater) number(least, most int) (n, size int) {
	if m.fault != api.OK {
		return 0, 0
	}
	ahead := m.body[m.place:]
	u, size := binary.Uvarint(ahead[:min(8, len(ahead))])
	switch {
	case size <= 0 && len(ahead) < 8:
		m.fault = api.ErrEnd
	case size <= 0, len(binary.AppendUvarint(nil, u)) != size:
		m.fault = api.ErrLong
	case int(u) < least || int(u) > most:
		m.fault = api.ErrRange
	default:
		return int(u), size
	}
	return 0, 0
}

func (m *eater) text(least, most int) string {
	n, size := m.number(least, most)
	if m.fault != api.OK {
		return ""
	}
	if len(m.body)-m.place-size < n {
		m.fault = api.ErrEnd
		return ""
	}
	m.place += size + n
	return string(m.body[m.place-n : m.place])
}

func (m *eater) op() api.Op {
	switch {
	case m.fault != api.OK:
		return api.Op{}
	case m.place == len(m.body):
		m.fault = api.ErrEnd
		return api.Op{}
	case m.body[m.place] < 1 || m.body[m.place] > 4:
		m.fault = api.ErrTag
		return api.Op{}
	}
	tag := m.body[m.place]
	m.place++
	op := api.Op{Kind: []int{api.OpRead, api.OpRead, api.OpWrite, api.OpDelete}[tag-1], Found: tag%2 == 1}
	op.Key = m.text(1, 8)
	if op.Found {
		op.Value = m.text(0, 16)
	}
	return op
}

func modelDecode(body []byte) (api.Txn, int, api.Errno) {
	m := &eater{body: body}
	var t api.Txn
	for _, f := range fields() {
		n, size := m.number(0, f.most)
		*f.in(&t) = n
		m.place += size
	}
	n, size := m.number(0, 16)
	m.place += size
	for range n {
		t.Ops = append(t.Ops, m.op())
	}
	if m.fault == api.OK && m.place < len(body) {
		m.fault = api.ErrTail
	}
	if m.fault != api.OK {
		return api.Txn{}, m.place, m.fault
	}
	return t, 0, api.OK
}

// spoilt changes a body a little.
func (d *dice) spoilt(body []byte) []byte {
	p := bytes.Clone(body)
	for range d.below(3) {
		at := d.below(len(p) + 1)
		edge := []byte{0, 1, 2, 3, 4, 5, 8, 9, 16, 17, 127, 128, 255}[d.below(13)]
		switch kind := d.below(4); {
		case kind == 0:
			p = p[:at]
		case kind == 1:
			p = append(p[:at:at], append([]byte{edge}, p[at:]...)...)
		case at < len(p) && kind == 2:
			p = append(p[:at:at], p[at+1:]...)
		case at < len(p):
			p[at] = edge
		}
	}
	return p
}

// P6.2 at bodies that are nearly right; and one form alone: what can be read
// is written with the very bytes that were read.
func TestModelReading(t *testing.T) {
	d := dice(62)
	seen := map[api.Errno]int{}
	for range 40000 {
		txn := d.txn()
		txn.Ops = txn.Ops[:d.below(min(4, len(txn.Ops)+1))]
		if modelValid(txn) != api.OK {
			continue
		}
		body := d.spoilt(modelBody(txn))
		want, wantPlace, wantErr := modelDecode(body)
		got, place, e := record.Decode(body)
		if !same(got, want) || place != wantPlace || e != wantErr {
			t.Fatalf("Decode(%v) = %v, %d, %d; want %v, %d, %d", body, got, place, e, want, wantPlace, wantErr)
		}
		seen[e]++
		if e == api.OK {
			takes(t, "read", got, body)
		}
	}
	for _, e := range []api.Errno{api.OK, api.ErrEnd, api.ErrLong, api.ErrRange, api.ErrTag, api.ErrTail} {
		if seen[e] < 200 {
			t.Errorf("answer %d was seen %d times only", e, seen[e])
		}
	}
}
