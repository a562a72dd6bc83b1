package rows_test

import (
	"bytes"
	"cmp"
	"encoding/binary"
	"slices"
	"strings"
	"testing"

	"proctor/api"
	"proctor/rows"
)

// dice is a source of numbers that is the same in every run.
type dice uint64

func (d *dice) below(n int) int {
	*d = *d*6364136223846793005 + 1442695040888963407
	return int(uint64(*d) >> 33 % uint64(n))
}

// upTo gives a number from 0 to most, often near an edge.
func (d *dice) upTo(most int) int {
	switch d.below(4) {
	case 0:
		return d.below(min(most, 3) + 1)
	case 1:
		return most - d.below(min(most, 3)+1)
	case 2:
		return (d.below(1<<30)<<30 + d.below(1<<30)) % (most + 1)
	}
	return (1<<d.below(41) + d.below(3) - 1) % (most + 1)
}

func (d *dice) row() rows.Row {
	return rows.Row{
		Kind: 1 + d.below(3), Time: d.upTo(api.MaxTime), Seq: d.upTo(api.MaxId), Index: d.upTo(api.MaxTxns - 1),
		From: d.upTo(api.MaxTime), To: d.upTo(api.MaxTime),
		Body: strings.Repeat(string(rune('a'+d.below(20))), d.upTo(api.MaxBody)),
	}
}

// modelDecode reads by the library's numbers, from a list of bounds.
func modelDecode(data []byte) (rows.Row, int, api.Errno) {
	if len(data) == 0 {
		return rows.Row{}, 0, api.ErrEnd
	}
	if !slices.Contains([]byte{1, 2, 3}, data[0]) {
		return rows.Row{}, 0, api.ErrRow
	}
	at := 1
	var got []int
	for _, most := range []int{1 << 40, 1<<20 - 1, 4095, 1 << 40, 1 << 40, 512} {
		ahead := data[at:min(at+8, len(data))]
		n, size := binary.Uvarint(ahead)
		switch {
		case size <= 0 && len(ahead) < 8:
			return rows.Row{}, at, api.ErrEnd
		case size <= 0, len(binary.AppendUvarint(nil, n)) != size:
			return rows.Row{}, at, api.ErrLong
		case n > uint64(most):
			return rows.Row{}, at, api.ErrRange
		case len(got) == 5 && int(n) > len(data)-at-size:
			return rows.Row{}, at, api.ErrEnd
		}
		got = append(got, int(n))
		at += size
	}
	end := at + got[5]
	return rows.Row{Kind: int(data[0]), Time: got[0], Seq: got[1], Index: got[2], From: got[3], To: got[4], Body: string(data[at:end])}, end, api.OK
}

// modelEncode writes by the library's numbers.
func modelEncode(r rows.Row) []byte {
	data := []byte{byte(r.Kind)}
	for _, n := range []int{r.Time, r.Seq, r.Index, r.From, r.To, len(r.Body)} {
		data = binary.AppendUvarint(data, uint64(n))
	}
	return append(data, r.Body...)
}

// spoil changes a byte, cuts the list off, or puts a byte in.
func (d *dice) spoil(data []byte) []byte {
	at := d.below(min(len(data), 30))
	edges := []byte{0, 1, 4, 127, 128, 129, 255}
	edge := edges[d.below(len(edges))]
	switch d.below(4) {
	case 0:
		data[at] = edge
	case 1:
		return data[:at]
	case 2:
		return slices.Insert(data, at, edge)
	}
	return data
}

// P9.1, P9.2: rows are written and read as by the model, whole and spoiled.
func TestModel(t *testing.T) {
	d := dice(9)
	seen := map[api.Errno]int{}
	for range 40000 {
		r := d.row()
		data, e := rows.Encode(r)
		if e != api.OK || !bytes.Equal(data, modelEncode(r)) || rows.Size(r) != len(data) {
			t.Fatalf("%v: Encode = %v, %d, Size = %d", r, data, e, rows.Size(r))
		}
		for range d.below(3) {
			if len(data) > 0 {
				data = d.spoil(data)
			}
		}
		wantRow, wantAt, want := modelDecode(data)
		got, at, e := rows.Decode(data)
		if got != wantRow || at != wantAt || e != want {
			t.Fatalf("Decode(%v) = %v, %d, %d; want %v, %d, %d", data, got, at, e, wantRow, wantAt, want)
		}
		seen[e]++
		if e != api.OK {
			continue
		}
		// What can be read is right, and has no other form.
		if p, e := rows.Encode(got); e != api.OK || !bytes.Equal(p, data[:at]) {
			t.Fatalf("%v has also the form %v", data[:at], p)
		}
	}
	for _, e := range []api.Errno{api.OK, api.ErrEnd, api.ErrLong, api.ErrRange, api.ErrRow} {
		if seen[e] < 100 {
			t.Errorf("answer %d was seen %d times only", e, seen[e])
		}
	}
}

// modelCompare holds lists of numbers against each other.
func modelCompare(order int, a, b rows.Row) int {
	list := func(r rows.Row) []int {
		if order == 1 {
			return []int{r.Time, r.Kind, r.Index}
		}
		return []int{r.Time, r.Seq, r.Index}
	}
	return slices.Compare(list(a), list(b))
}

// P9.3, P9.4: keys compare as the rows do, in both orders.
func TestKeysCompare(t *testing.T) {
	d := dice(94)
	seen := map[int]int{}
	for range 40000 {
		a, b := d.row(), d.row()
		for _, f := range fields() {
			if d.below(3) > 0 {
				*f.of(&b) = *f.of(&a)
			}
		}
		for _, order := range []int{rows.ByTime, rows.BySession} {
			got := rows.Compare(order, a, b)
			if want := modelCompare(order, a, b); got != want {
				t.Fatalf("Compare(%d, %v, %v) = %d; want %d", order, a, b, got, want)
			}
			first, e := rows.Key(order, a)
			second, f := rows.Key(order, b)
			if e != api.OK || f != api.OK || cmp.Compare(bytes.Compare(first, second), 0) != got {
				t.Fatalf("Key(%d): %v, %d and %v, %d; the rows compare %d", order, first, e, second, f, got)
			}
			seen[got]++
		}
	}
	for _, n := range []int{-1, 0, 1} {
		if seen[n] < 1000 {
			t.Errorf("answer %d was seen %d times only", n, seen[n])
		}
	}
}
