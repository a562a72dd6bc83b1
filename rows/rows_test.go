package rows_test

import (
	"bytes"
	"math"
	"strings"
	"testing"

	"proctor/api"
	"proctor/rows"
)

// form is a right row, its bytes, and its keys by both orders.
type form struct {
	name              string
	row               rows.Row
	data              []byte
	byTime, bySession []byte
}

// greatest is the row of the most bytes.
func greatest() form {
	body := strings.Repeat("\xff", api.MaxBody)
	top := []byte{128, 128, 128, 128, 128, 32}
	data := bytes.Join([][]byte{{3}, top, {255, 255, 63}, {255, 31}, top, top, {128, 4}, []byte(body)}, nil)
	return form{
		"the greatest",
		rows.Row{Kind: rows.RowSession, Time: api.MaxTime, Seq: api.MaxId, Index: api.MaxTxns - 1, From: api.MaxTime, To: api.MaxTime, Body: body},
		data,
		[]byte{0, 0, 1, 0, 0, 0, 0, 0, 3, 0, 0, 15, 255},
		[]byte{0, 0, 1, 0, 0, 0, 0, 0, 0, 15, 255, 255, 0, 0, 15, 255},
	}
}

func forms() []form {
	return []form{
		{
			"example 1",
			rows.Row{Kind: rows.RowEnd, Time: 300, Index: 2, Body: "ab"},
			[]byte{1, 172, 2, 0, 2, 0, 0, 2, 97, 98},
			[]byte{0, 0, 0, 0, 0, 0, 1, 44, 1, 0, 0, 0, 2},
			[]byte{0, 0, 0, 0, 0, 0, 1, 44, 0, 0, 0, 0, 0, 0, 0, 2},
		},
		{
			"the least",
			rows.Row{Kind: rows.RowEnd},
			[]byte{1, 0, 0, 0, 0, 0, 0},
			[]byte{0, 0, 0, 0, 0, 0, 0, 0, 1, 0, 0, 0, 0},
			[]byte{0, 0, 0, 0, 0, 0, 0, 0, 0, 0, 0, 0, 0, 0, 0, 0},
		},
		{
			"each field has its place",
			rows.Row{Kind: rows.RowStart, Time: 3, Seq: 4, Index: 5, From: 6, To: 7, Body: "\x08"},
			[]byte{2, 3, 4, 5, 6, 7, 1, 8},
			[]byte{0, 0, 0, 0, 0, 0, 0, 3, 2, 0, 0, 0, 5},
			[]byte{0, 0, 0, 0, 0, 0, 0, 3, 0, 0, 0, 4, 0, 0, 0, 5},
		},
		{
			"each byte of a key has its place",
			rows.Row{Kind: rows.RowSession, Time: 0xa1b2c3d4e5, Seq: 0x0fedcb, Index: 0x0abc, From: 1, To: 128, Body: "\x00\xc3\n"},
			[]byte{3, 229, 169, 143, 150, 155, 20, 203, 219, 63, 188, 21, 1, 128, 1, 3, 0, 195, 10},
			[]byte{0, 0, 0, 0xa1, 0xb2, 0xc3, 0xd4, 0xe5, 3, 0, 0, 0x0a, 0xbc},
			[]byte{0, 0, 0, 0xa1, 0xb2, 0xc3, 0xd4, 0xe5, 0, 0x0f, 0xed, 0xcb, 0, 0, 0x0a, 0xbc},
		},
		greatest(),
	}
}

// field is one number of a row, and its bounds.
type field struct {
	name        string
	of          func(r *rows.Row) *int
	least, most int
}

func fields() []field {
	return []field{
		{"Kind", func(r *rows.Row) *int { return &r.Kind }, rows.RowEnd, rows.RowSession},
		{"Time", func(r *rows.Row) *int { return &r.Time }, 0, api.MaxTime},
		{"Seq", func(r *rows.Row) *int { return &r.Seq }, 0, api.MaxId},
		{"Index", func(r *rows.Row) *int { return &r.Index }, 0, api.MaxTxns - 1},
		{"From", func(r *rows.Row) *int { return &r.From }, 0, api.MaxTime},
		{"To", func(r *rows.Row) *int { return &r.To }, 0, api.MaxTime},
	}
}

// takes looks at a right row, and at its bytes if they are given.
func takes(t *testing.T, name string, r rows.Row, want []byte) {
	t.Helper()
	if !rows.Valid(r) {
		t.Errorf("%s: Valid is false", name)
	}
	data, e := rows.Encode(r)
	if e != api.OK || want != nil && !bytes.Equal(data, want) {
		t.Errorf("%s: Encode = %v, %d; want %v", name, data, e, want)
	}
	if n := rows.Size(r); n != len(data) {
		t.Errorf("%s: Size = %d; want %d", name, n, len(data))
	}
	if back, n, e := rows.Decode(data); back != r || n != len(data) || e != api.OK {
		t.Errorf("%s: Decode = %v, %d, %d; want %v", name, back, n, e, r)
	}
}

// refuses looks at what all calls tell of a row that isn't right.
func refuses(t *testing.T, name string, r rows.Row) {
	t.Helper()
	if rows.Valid(r) {
		t.Errorf("%s: Valid is true", name)
	}
	if n := rows.Size(r); n != 0 {
		t.Errorf("%s: Size = %d; want 0", name, n)
	}
	if data, e := rows.Encode(r); data != nil || e != api.ErrRow {
		t.Errorf("%s: Encode = %v, %d; want nil, %d", name, data, e, api.ErrRow)
	}
	for order, want := range map[int]api.Errno{rows.ByTime: api.ErrRow, rows.BySession: api.ErrRow, 0: api.ErrOrder, 3: api.ErrOrder} {
		if key, e := rows.Key(order, r); key != nil || e != want {
			t.Errorf("%s: Key(%d) = %v, %d; want nil, %d", name, order, key, e, want)
		}
	}
}

// faults looks at bytes that can't be read.
func faults(t *testing.T, name string, data []byte, place int, want api.Errno) {
	t.Helper()
	if r, at, e := rows.Decode(data); r != (rows.Row{}) || at != place || e != want {
		t.Errorf("%s: Decode(%v) = %v, %d, %d; want nothing, %d, %d", name, data, r, at, e, place, want)
	}
}

// compares looks at two rows in one order, both ways.
func compares(t *testing.T, name string, order int, a, b rows.Row, want int) {
	t.Helper()
	if got := rows.Compare(order, a, b); got != want {
		t.Errorf("%s: Compare(%d, %v, %v) = %d; want %d", name, order, a, b, got, want)
	}
	if got := rows.Compare(order, b, a); got != -want {
		t.Errorf("%s: Compare(%d, %v, %v) = %d; want %d", name, order, b, a, got, -want)
	}
}

// The chapter's examples 2 and 3; example 1 is the first of the forms.
func TestExamples(t *testing.T) {
	start, end := rows.Row{Kind: rows.RowStart, Time: 5}, rows.Row{Kind: rows.RowEnd, Time: 5, Index: 9}
	compares(t, "example 2", rows.ByTime, start, end, 1)
	compares(t, "example 2", 7, start, end, 0)
	faults(t, "example 3", []byte{4, 0}, 0, api.ErrRow)
	faults(t, "example 3", nil, 0, api.ErrEnd)
	faults(t, "example 3", []byte{1, 172}, 1, api.ErrEnd)
}

// P9.1, P9.2, P9.4: the form, both ways, and the keys.
func TestForms(t *testing.T) {
	for _, f := range forms() {
		takes(t, f.name, f.row, f.data)
		for order, want := range map[int][]byte{rows.ByTime: f.byTime, rows.BySession: f.bySession} {
			if key, e := rows.Key(order, f.row); e != api.OK || !bytes.Equal(key, want) {
				t.Errorf("%s: Key(%d) = %v, %d; want %v", f.name, order, key, e, want)
			}
		}
	}
	if n := rows.Size(greatest().row); n != 538 {
		t.Errorf("the greatest: Size = %d; want 538", n)
	}
}

// P9.1, P9.4: each field is right up to its bounds, and not past them.
func TestBounds(t *testing.T) {
	for _, base := range forms() {
		for _, f := range fields() {
			for _, n := range []int{f.least, f.least + 1, f.most - 1, f.most} {
				r := base.row
				*f.of(&r) = n
				takes(t, base.name+", a right "+f.name, r, nil)
			}
			for _, n := range []int{f.least - 1, f.most + 1, 256 + f.least, -1, math.MinInt, math.MaxInt, math.MinInt + f.least, 1<<32 + f.least, 1<<56 + f.least} {
				if n >= f.least && n <= f.most {
					continue
				}
				r := base.row
				*f.of(&r) = n
				refuses(t, base.name+", a wrong "+f.name, r)
			}
		}
		for _, n := range []int{0, 1, 127, 128, api.MaxBody - 1, api.MaxBody} {
			r := base.row
			r.Body = strings.Repeat("\x80", n)
			takes(t, base.name+", a right Body", r, nil)
		}
		for _, n := range []int{api.MaxBody + 1, api.MaxBody + 256, 1 << 16} {
			r := base.row
			r.Body = strings.Repeat("b", n)
			refuses(t, base.name+", a wrong Body", r)
		}
	}
	refuses(t, "nothing", rows.Row{})
}

// P9.2: a row that is cut off ends at the item that isn't whole.
func TestCutOff(t *testing.T) {
	for _, f := range forms() {
		starts := itemStarts(f.row)
		item := 0
		for n := range f.data {
			for item+1 < len(starts) && starts[item+1] <= n {
				item++
			}
			faults(t, f.name+", cut off", f.data[:n], starts[item], api.ErrEnd)
			faults(t, f.name+", cut off within a greater list", f.data[:n:n], starts[item], api.ErrEnd)
		}
	}
}

// itemStarts tells where the kind, the five numbers and the body of a row begin.
func itemStarts(r rows.Row) []int {
	starts := []int{0}
	at := 1
	for _, n := range []int{r.Time, r.Seq, r.Index, r.From, r.To} {
		starts = append(starts, at)
		for at++; n > 127; n >>= 7 {
			at++
		}
	}
	return append(starts, at)
}

// P9.2: what lies behind a row is not looked at, however long it is.
func TestBehind(t *testing.T) {
	for _, f := range forms() {
		for _, tail := range [][]byte{{0}, {255}, {128, 128, 128, 128, 128, 128, 128, 128, 128}, bytes.Repeat([]byte{4}, 3000), f.data} {
			data := append(bytes.Clone(f.data), tail...)
			if r, n, e := rows.Decode(data); r != f.row || n != len(f.data) || e != api.OK {
				t.Errorf("%s, with %d bytes behind: Decode = %v, %d, %d", f.name, len(tail), r, n, e)
			}
		}
	}
}

// P9.2: the kind is one of three bytes.
func TestKinds(t *testing.T) {
	for kind := range 256 {
		if kind >= rows.RowEnd && kind <= rows.RowSession {
			continue
		}
		faults(t, "a wrong kind alone", []byte{byte(kind)}, 0, api.ErrRow)
		faults(t, "a wrong kind ahead of wrong numbers", []byte{byte(kind), 128, 0}, 0, api.ErrRow)
		faults(t, "a wrong kind ahead of a row", []byte{byte(kind), 0, 0, 0, 0, 0, 0}, 0, api.ErrRow)
	}
}

// P9.2: each item tells its own fault, at its place, whatever stands behind it.
func TestItems(t *testing.T) {
	over := [][]byte{
		{129, 128, 128, 128, 128, 32}, // MaxTime + 1
		{128, 128, 64},                // MaxId + 1
		{128, 32},                     // MaxTxns
		{129, 128, 128, 128, 128, 32},
		{129, 128, 128, 128, 128, 32},
		{129, 4}, // MaxBody + 1
	}
	for i, wrong := range over {
		head := append([]byte{2}, make([]byte, i)...)
		bad := func(item ...byte) []byte { return append(bytes.Clone(head), item...) }
		for _, tail := range [][]byte{nil, {0, 0, 0, 0, 0, 0}, {128, 0, 255}, make([]byte, 1000)} {
			faults(t, "too great", append(bad(wrong...), tail...), i+1, api.ErrRange)
			faults(t, "as great as can be", append(bad(255, 255, 255, 255, 255, 255, 255, 127), tail...), i+1, api.ErrRange)
			faults(t, "a number with a group too many", append(bad(129, 0), tail...), i+1, api.ErrLong)
			faults(t, "a number without end", append(bad(128, 128, 128, 128, 128, 128, 128, 128), tail...), i+1, api.ErrLong)
		}
		faults(t, "nothing there", bad(), i+1, api.ErrEnd)
		faults(t, "seven bytes of a number", bad(255, 255, 255, 255, 255, 255, 255), i+1, api.ErrEnd)
	}
	faults(t, "a body that isn't there", []byte{1, 0, 0, 0, 0, 0, 2, 97}, 6, api.ErrEnd)
}

// P9.2: a row whose numbers are as long as can be is read whole, and so is the
// fault of its last item.
func TestFarFault(t *testing.T) {
	g := greatest()
	head := g.data[:len(g.data)-2-api.MaxBody]
	faults(t, "a length too great", append(bytes.Clone(head), 129, 4), len(head), api.ErrRange)
	faults(t, "a length without end", append(bytes.Clone(head), bytes.Repeat([]byte{128}, 2000)...), len(head), api.ErrLong)
	faults(t, "no length", head, len(head), api.ErrEnd)
	faults(t, "the last byte of the body", g.data[:len(g.data)-1], len(head), api.ErrEnd)
}

// P9.3: which field counts, and in which place.
func TestOrders(t *testing.T) {
	low := rows.Row{Kind: rows.RowEnd, Time: 5, Seq: 5, Index: 5, From: 5, To: 5, Body: "b"}
	counts := map[int][]string{rows.ByTime: {"Time", "Kind", "Index"}, rows.BySession: {"Time", "Seq", "Index"}}
	for order, names := range counts {
		compares(t, "alike", order, low, low, 0)
		for i, name := range names {
			// The field that counts is against all others.
			high := rows.Row{Kind: -9, Time: -9, Seq: -9, Index: -9, From: -9, To: -9}
			for _, f := range fields() {
				for _, ahead := range names[:i] {
					if f.name == ahead {
						*f.of(&high) = *f.of(&low)
					}
				}
				if f.name == name {
					*f.of(&high) = 9
				}
			}
			compares(t, name, order, low, high, -1)
		}
		other := low
		other.From, other.To, other.Body = 9, -9, ""
		if order == rows.ByTime {
			other.Seq = 9
		} else {
			other.Kind = 9
		}
		compares(t, "what doesn't count", order, low, other, 0)
	}
}

// P9.3: rows needn't be right: no difference of two fields is worked out.
func TestFarRows(t *testing.T) {
	low, high := rows.Row{Time: math.MinInt}, rows.Row{Time: math.MaxInt}
	compares(t, "times", rows.ByTime, low, high, -1)
	compares(t, "times", rows.BySession, low, high, -1)
	low, high = rows.Row{Kind: math.MinInt}, rows.Row{Kind: math.MaxInt}
	compares(t, "kinds", rows.ByTime, low, high, -1)
	compares(t, "kinds", rows.BySession, low, high, 0)
	low, high = rows.Row{Seq: math.MinInt}, rows.Row{Seq: math.MaxInt}
	compares(t, "seqs", rows.ByTime, low, high, 0)
	compares(t, "seqs", rows.BySession, low, high, -1)
	low, high = rows.Row{Index: math.MinInt}, rows.Row{Index: math.MaxInt}
	compares(t, "indices", rows.ByTime, low, high, -1)
	compares(t, "indices", rows.BySession, low, high, -1)
}

// P9.3, P9.4: orders that there aren't.
func TestUnknownOrders(t *testing.T) {
	low, high := rows.Row{Kind: 1}, rows.Row{Kind: 2, Time: 3, Seq: 4, Index: 5}
	for _, order := range []int{0, -1, 3, 7, 257, 258, 1<<32 + 1, math.MinInt, math.MaxInt} {
		compares(t, "an unknown order", order, low, high, 0)
		if key, e := rows.Key(order, high); key != nil || e != api.ErrOrder {
			t.Errorf("Key(%d) = %v, %d; want nil, %d", order, key, e, api.ErrOrder)
		}
	}
}

// What is handed in stays, and an answer is new memory.
func TestOwnMemory(t *testing.T) {
	f := forms()[0]
	room := append(bytes.Clone(f.data), 9, 9, 9, 9)
	before := bytes.Clone(room)
	r, _, _ := rows.Decode(room[:len(f.data)])
	if !bytes.Equal(room, before) {
		t.Errorf("Decode changed its argument: %v", room)
	}
	clear(room)
	if r != f.row {
		t.Errorf("the row changed with the argument: %v", r)
	}
	for name, call := range map[string]func() []byte{
		"Encode":         func() []byte { p, _ := rows.Encode(f.row); return p },
		"Key, ByTime":    func() []byte { p, _ := rows.Key(rows.ByTime, f.row); return p },
		"Key, BySession": func() []byte { p, _ := rows.Key(rows.BySession, f.row); return p },
	} {
		first, second := call(), call()
		want := bytes.Clone(second)
		first = first[:cap(first)]
		for i := range first {
			first[i] = 255
		}
		if !bytes.Equal(second, want) || !bytes.Equal(call(), want) {
			t.Errorf("%s: two answers share memory", name)
		}
	}
}
