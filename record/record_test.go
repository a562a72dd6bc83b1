package record_test

import (
	"bytes"
	"math"
	"reflect"
	"slices"
	"strings"
	"testing"

	"proctor/api"
	"proctor/record"
)

func write(key, value string) api.Op {
	return api.Op{Kind: api.OpWrite, Key: key, Found: true, Value: value}
}

func found(key, value string) api.Op {
	return api.Op{Kind: api.OpRead, Key: key, Found: true, Value: value}
}

func none(key string) api.Op { return api.Op{Kind: api.OpRead, Key: key} }

func del(key string) api.Op { return api.Op{Kind: api.OpDelete, Key: key} }

func with(ops ...api.Op) api.Txn {
	return api.Txn{Session: 1, Start: 5, End: 9, Invoke: 5, Return: 9, Status: api.Committed, Ops: ops}
}

// form is a right transaction and its body.
type form struct {
	name string
	txn  api.Txn
	body []byte
}

// greatest is the transaction of the most bytes.
func greatest() form {
	key, value := strings.Repeat("\xff", api.MaxKey), strings.Repeat("\x00", api.MaxValue)
	t := api.Txn{Session: api.MaxId, Seq: api.MaxId, Start: api.MaxTime, End: api.MaxTime, Invoke: api.MaxTime, Return: api.MaxTime, Status: api.Committed}
	body := []byte{255, 255, 63, 255, 255, 63}
	for range 4 {
		body = append(body, 128, 128, 128, 128, 128, 32)
	}
	body = append(body, 1, 16)
	for range api.MaxOps {
		t.Ops = append(t.Ops, write(key, value))
		body = append(body, 3, 8)
		body = append(body, key...)
		body = append(body, 16)
		body = append(body, value...)
	}
	return form{"the greatest", t, body}
}

func forms() []form {
	head := []byte{1, 0, 5, 9, 5, 9, 1}
	body := func(rest ...byte) []byte { return append(bytes.Clone(head), rest...) }
	return []form{
		{"example 1", with(write("a", "x")), body(1, 3, 1, 97, 1, 120)},
		{"nothing", api.Txn{}, []byte{0, 0, 0, 0, 0, 0, 0, 0}},
		{"each field has its place", api.Txn{Session: 2, Seq: 3, Start: 4, End: 5, Invoke: 6, Return: 7, Status: api.Committed}, []byte{2, 3, 4, 5, 6, 7, 1, 0}},
		{"an end before the start", api.Txn{Start: 300, End: 2, Invoke: 200, Return: 1}, []byte{0, 0, 172, 2, 2, 200, 1, 1, 0, 0}},
		{"a read of a value", with(found("a", "x")), body(1, 1, 1, 97, 1, 120)},
		{"a read of an empty value", with(found("a", "")), body(1, 1, 1, 97, 0)},
		{"a read of nothing", with(none("a")), body(1, 2, 1, 97)},
		{"a write of an empty value", with(write("a", "")), body(1, 3, 1, 97, 0)},
		{"a delete", with(del("a")), body(1, 4, 1, 97)},
		{"all kinds in their order", with(del("a"), found("b", "y"), write("\x00", "\xff\xc3"), none("ab"), none("ab")), body(5, 4, 1, 97, 1, 1, 98, 1, 121, 3, 1, 0, 2, 255, 195, 2, 2, 97, 98, 2, 2, 97, 98)},
		greatest(),
	}
}

func same(a, b api.Txn) bool {
	ops := slices.Equal(a.Ops, b.Ops)
	a.Ops, b.Ops = nil, nil
	return ops && reflect.DeepEqual(a, b)
}

// refuses looks at what all three calls tell of a transaction that isn't right.
func refuses(t *testing.T, name string, txn api.Txn, want api.Errno) {
	t.Helper()
	if e := record.Valid(txn); e != want {
		t.Errorf("%s: Valid = %d; want %d", name, e, want)
	}
	if n := record.Size(txn); n != 0 {
		t.Errorf("%s: Size = %d; want 0", name, n)
	}
	if body, e := record.Encode(txn); len(body) != 0 || e != want {
		t.Errorf("%s: Encode = %v, %d; want nothing, %d", name, body, e, want)
	}
}

// takes looks at a right transaction, and at its body if it is given.
func takes(t *testing.T, name string, txn api.Txn, want []byte) {
	t.Helper()
	if e := record.Valid(txn); e != api.OK {
		t.Errorf("%s: Valid = %d", name, e)
	}
	body, e := record.Encode(txn)
	if e != api.OK || want != nil && !bytes.Equal(body, want) {
		t.Errorf("%s: Encode = %v, %d; want %v", name, body, e, want)
	}
	if n := record.Size(txn); n != len(body) {
		t.Errorf("%s: Size = %d; want %d", name, n, len(body))
	}
	if back, place, e := record.Decode(body); !same(back, txn) || place != 0 || e != api.OK {
		t.Errorf("%s: Decode = %v, %d, %d; want %v", name, back, place, e, txn)
	}
}

// faults looks at a body that can't be read.
func faults(t *testing.T, name string, body []byte, place int, want api.Errno) {
	t.Helper()
	txn, at, e := record.Decode(body)
	if at != place || e != want {
		t.Errorf("%s: Decode(%v) = %d, %d; want %d, %d", name, body, at, e, place, want)
	}
	if !same(txn, api.Txn{}) {
		t.Errorf("%s: with an error stands the transaction %v", name, txn)
	}
}

// P6.1, P6.2: the form, both ways.
func TestForms(t *testing.T) {
	for _, f := range forms() {
		takes(t, f.name, f.txn, f.body)
	}
}

// P6.1: the sizes that the chapter names.
func TestSize(t *testing.T) {
	if n := record.Size(with(write("a", "x"))); n != 13 {
		t.Errorf("example 1: Size = %d; want 13", n)
	}
	if n := record.Size(greatest().txn); n != 464 {
		t.Errorf("the greatest: Size = %d; want 464", n)
	}
}

// field is one of the numbers of a transaction, where it is kept and its most.
type field struct {
	name string
	in   func(*api.Txn) *int
	most int
}

func fields() []field {
	return []field{
		{"Session", func(t *api.Txn) *int { return &t.Session }, api.MaxId},
		{"Seq", func(t *api.Txn) *int { return &t.Seq }, api.MaxId},
		{"Start", func(t *api.Txn) *int { return &t.Start }, api.MaxTime},
		{"End", func(t *api.Txn) *int { return &t.End }, api.MaxTime},
		{"Invoke", func(t *api.Txn) *int { return &t.Invoke }, api.MaxTime},
		{"Return", func(t *api.Txn) *int { return &t.Return }, api.MaxTime},
		{"Status", func(t *api.Txn) *int { return &t.Status }, 1},
	}
}

// P6.1: each field's bounds.
func TestFields(t *testing.T) {
	for _, f := range fields() {
		for _, n := range []int{0, 1, f.most - 1, f.most} {
			txn := with(none("a"))
			*f.in(&txn) = n
			takes(t, f.name, txn, nil)
		}
		for _, n := range []int{-1, f.most + 1, math.MinInt, math.MaxInt, api.MaxNumber, 1<<32 + 1} {
			if n == 1<<32+1 && f.most == api.MaxTime {
				continue
			}
			txn := with(none("a"))
			*f.in(&txn) = n
			refuses(t, f.name, txn, api.ErrField)
		}
	}
}

// P6.1: how many operations there may be.
func TestOps(t *testing.T) {
	for _, n := range []int{0, 1, 15, 16} {
		takes(t, "operations", with(slices.Repeat([]api.Op{none("a")}, n)...), nil)
	}
	for _, n := range []int{17, 18, 256, 257, 1000} {
		refuses(t, "operations", with(slices.Repeat([]api.Op{none("a")}, n)...), api.ErrOps)
	}
}

// P6.1: which operations are right.
func TestOp(t *testing.T) {
	key, value := strings.Repeat("k", api.MaxKey), strings.Repeat("v", api.MaxValue)
	for name, op := range map[string]api.Op{
		"a long read":         found(key, value),
		"a long write":        write(key, value),
		"a long read of none": none(key),
		"a long delete":       del(key),
		"any bytes":           write("\x00\xff\n ", "\x80\x00"),
	} {
		takes(t, name, with(op), nil)
	}
	for name, op := range map[string]api.Op{
		"the zero operation":        {},
		"a kind of 0":               {Kind: 0, Key: "a", Found: true},
		"a kind of 4":               {Kind: 4, Key: "a"},
		"a kind of -1":              {Kind: -1, Key: "a"},
		"a kind of 257":             {Kind: 257, Key: "a"},
		"a read of no key":          found("", "x"),
		"a write of no key":         write("", "x"),
		"a delete of no key":        del(""),
		"a read of a long key":      found(key+"k", ""),
		"a read of none, long key":  none(key + "k"),
		"a write of a long key":     write(key+"k", ""),
		"a delete of a long key":    del(key + "k"),
		"a read of a long value":    found("a", value+"v"),
		"a write of a long value":   write("a", value+"v"),
		"a read of none, a value":   {Kind: api.OpRead, Key: "a", Value: "x"},
		"a write that hasn't found": {Kind: api.OpWrite, Key: "a", Value: "x"},
		"an empty write, not found": {Kind: api.OpWrite, Key: "a"},
		"a delete that found":       {Kind: api.OpDelete, Key: "a", Found: true},
		"a delete of a value":       {Kind: api.OpDelete, Key: "a", Value: "x"},
		"a delete that found one":   {Kind: api.OpDelete, Key: "a", Found: true, Value: "x"},
	} {
		refuses(t, name, with(op), api.ErrOp)
		refuses(t, name+" as the last of all", with(append(slices.Repeat([]api.Op{none("a")}, api.MaxOps-1), op)...), api.ErrOp)
		refuses(t, name+" ahead of another", with(op, none("a")), api.ErrOp)
	}
}

// P6.1: the first error is told.
func TestOrder(t *testing.T) {
	for _, f := range fields() {
		txn := with(make([]api.Op, api.MaxOps+1)...)
		refuses(t, "operations", txn, api.ErrOps)
		*f.in(&txn) = f.most + 1
		refuses(t, f.name, txn, api.ErrField)
		txn.Ops = txn.Ops[:1]
		refuses(t, f.name, txn, api.ErrField)
	}
}

// P6.2, example 2.
func TestExampleFaults(t *testing.T) {
	body := forms()[0].body
	changed := func(i int, b byte) []byte {
		c := bytes.Clone(body)
		c[i] = b
		return c
	}
	faults(t, "without the last", body[:12], 11, api.ErrEnd)
	faults(t, "with one more", append(bytes.Clone(body), 0), 13, api.ErrTail)
	faults(t, "tag 5", changed(8, 5), 8, api.ErrTag)
	faults(t, "status 2", changed(6, 2), 6, api.ErrRange)
}

// P6.2: a body that is cut off anywhere lacks an item, which is told by its
// first byte.
func TestCut(t *testing.T) {
	// Where the items begin: eight numbers, a write, a delete, a read.
	body := []byte{1, 0, 172, 2, 9, 5, 9, 1, 3, 3, 2, 97, 98, 1, 120, 4, 1, 97, 1, 1, 97, 2, 121, 122}
	starts := []int{0, 1, 2, 4, 5, 6, 7, 8, 9, 10, 13, 15, 16, 18, 19, 21, len(body)}
	if _, place, e := record.Decode(body); place != 0 || e != api.OK {
		t.Fatalf("the whole: %d, %d", place, e)
	}
	for i := range starts[1:] {
		for end := starts[i]; end < starts[i+1]; end++ {
			faults(t, "cut", body[:end], starts[i], api.ErrEnd)
		}
	}
	faults(t, "nil", nil, 0, api.ErrEnd)
	for _, tail := range [][]byte{{0}, {1}, {4, 1, 97}, {128, 0}, make([]byte, 1000)} {
		faults(t, "tail", append(bytes.Clone(body), tail...), len(body), api.ErrTail)
	}
}

// P6.2: each number's most, and its forms.
func TestNumbers(t *testing.T) {
	id, time := []byte{128, 128, 64}, []byte{129, 128, 128, 128, 128, 32}
	for i, over := range [][]byte{id, id, time, time, time, time, {2}, {17}} {
		behind := make([]byte, 20)
		at := func(item ...byte) []byte { return slices.Concat(make([]byte, i), item, behind) }
		faults(t, "past the most", at(over...), i, api.ErrRange)
		faults(t, "the greatest number", at(255, 255, 255, 255, 255, 255, 255, 127), i, api.ErrRange)
		faults(t, "a longer form", at(128, 0), i, api.ErrLong)
		faults(t, "nine bytes", at(255, 255, 255, 255, 255, 255, 255, 255, 1), i, api.ErrLong)
		faults(t, "no end", slices.Concat(make([]byte, i), []byte{255, 255}), i, api.ErrEnd)
	}
}

// P6.2: which tags there are.
func TestTags(t *testing.T) {
	for b := range 256 {
		body := []byte{0, 0, 0, 0, 0, 0, 0, 2, 4, 1, 97, byte(b), 1, 97}
		switch b {
		case 1, 3:
			faults(t, "a tag with a value", body, 14, api.ErrEnd)
			body = append(body, 0)
			fallthrough
		case 2, 4:
			if _, place, e := record.Decode(body); place != 0 || e != api.OK {
				t.Errorf("tag %d: %d, %d", b, place, e)
			}
			faults(t, "a tail", append(body, 0), len(body), api.ErrTail)
		default:
			faults(t, "no tag", body, 11, api.ErrTag)
			faults(t, "no tag, and nothing behind it", body[:12], 11, api.ErrTag)
		}
	}
}

// P6.2: the lengths of keys and values.
func TestTexts(t *testing.T) {
	head := []byte{0, 0, 0, 0, 0, 0, 0, 1}
	text := func(n int) []byte { return append([]byte{byte(n)}, make([]byte, n)...) }
	for tag := byte(1); tag <= 4; tag++ {
		valued := tag%2 == 1
		op := func(key, value []byte) []byte {
			if !valued {
				value = nil
			}
			return slices.Concat(head, []byte{tag}, key, value)
		}
		for _, n := range []int{0, 9, 10, 127} {
			faults(t, "key", op(text(n), text(0)), 9, api.ErrRange)
		}
		faults(t, "key", op([]byte{129, 0}, text(0)), 9, api.ErrLong)
		faults(t, "key", op([]byte{9}, nil), 9, api.ErrRange)
		faults(t, "key", op([]byte{3, 97}, nil), 9, api.ErrEnd)
		for _, n := range []int{1, 7, 8} {
			if txn, place, e := record.Decode(op(text(n), text(0))); place != 0 || e != api.OK || len(txn.Ops) != 1 || len(txn.Ops[0].Key) != n {
				t.Errorf("a key of %d: %v, %d, %d", n, txn, place, e)
			}
			if !valued {
				continue
			}
			for _, m := range []int{0, 1, 15, 16} {
				if txn, place, e := record.Decode(op(text(n), text(m))); place != 0 || e != api.OK || len(txn.Ops) != 1 || len(txn.Ops[0].Value) != m {
					t.Errorf("a value of %d: %v, %d, %d", m, txn, place, e)
				}
			}
			for _, m := range []int{17, 18, 127} {
				faults(t, "value", op(text(n), text(m)), 10+n, api.ErrRange)
			}
			faults(t, "value", op(text(n), []byte{128, 0}), 10+n, api.ErrLong)
			faults(t, "value", op(text(n), []byte{16, 1}), 10+n, api.ErrEnd)
		}
	}
}

// P6.2: of several faults the first item's is told.
func TestFirst(t *testing.T) {
	faults(t, "status ahead of tag", []byte{0, 0, 0, 0, 0, 0, 2, 1, 9}, 6, api.ErrRange)
	faults(t, "tag ahead of key", []byte{0, 0, 0, 0, 0, 0, 1, 1, 0, 0}, 8, api.ErrTag)
	faults(t, "key ahead of tail", []byte{0, 0, 0, 0, 0, 0, 1, 1, 2, 0, 5, 5}, 9, api.ErrRange)
	faults(t, "a later operation's tag", []byte{0, 0, 0, 0, 0, 0, 1, 2, 2, 1, 5, 5, 9}, 11, api.ErrTag)
	faults(t, "a lacking operation", []byte{0, 0, 0, 0, 0, 0, 1, 2, 2, 1, 5}, 11, api.ErrEnd)
}

// What is handed in is not changed, its spare room neither, and no memory is
// shared with it or between answers.
func TestOwnMemory(t *testing.T) {
	room := append(make([]byte, 0, 64), forms()[0].body...)
	spare := room[:64]
	for i := 13; i < 64; i++ {
		spare[i] = 7
	}
	before := bytes.Clone(spare)
	first, _, _ := record.Decode(room)
	second, _, _ := record.Decode(room)
	if !bytes.Equal(spare, before) {
		t.Errorf("Decode has changed its argument")
	}
	clear(spare)
	first.Ops[0].Key = "zz"
	first.Ops = append(first.Ops, none("q"))
	if !same(second, with(write("a", "x"))) {
		t.Errorf("answers share memory: %v", second)
	}

	ops := append(make([]api.Op, 0, 4), write("a", "x"))
	txn := with(ops...)
	txn.Ops = ops
	p, _ := record.Encode(txn)
	q, _ := record.Encode(txn)
	clear(p[:cap(p)])
	if !bytes.Equal(q, forms()[0].body) {
		t.Errorf("bodies share memory: %v", q)
	}
	if rest := ops[:4]; rest[0] != write("a", "x") || !slices.Equal(rest[1:], make([]api.Op, 3)) {
		t.Errorf("Encode has changed its argument: %v", rest)
	}
}
