package logfile_test

import (
	"bytes"
	"math"
	"reflect"
	"slices"
	"strings"
	"testing"

	"proctor/api"
	"proctor/logfile"
	"proctor/record"
)

func magic(rest ...byte) []byte { return append([]byte{80, 82, 79, 1}, rest...) }

// small is a transaction whose body has eight bytes.
func small() api.Txn {
	return api.Txn{Session: 1, Start: 5, End: 9, Invoke: 5, Return: 9, Status: api.Committed}
}

// smallEntry is the entry of small.
func smallEntry() []byte { return []byte{8, 1, 0, 5, 9, 5, 9, 1, 0} }

func writer(n int) api.Txn {
	t := small()
	for range n {
		t.Ops = append(t.Ops, api.Op{Kind: api.OpWrite, Key: strings.Repeat("k", api.MaxKey), Found: true, Value: strings.Repeat("v", api.MaxValue)})
	}
	return t
}

func sameTxn(a, b api.Txn) bool {
	ops := slices.Equal(a.Ops, b.Ops)
	a.Ops, b.Ops = nil, nil
	return ops && reflect.DeepEqual(a, b)
}

func sameList(a, b []api.Txn) bool { return slices.EqualFunc(a, b, sameTxn) }

// writes looks at a log both ways.
func writes(t *testing.T, name string, list []api.Txn, want []byte) {
	t.Helper()
	p, place, e := logfile.Encode(list)
	if !bytes.Equal(p, want) || place != 0 || e != api.OK {
		t.Errorf("%s: Encode = %v, %d, %d; want %v", name, p, place, e, want)
	}
	back, place, e := logfile.Decode(want)
	if !sameList(back, list) || place != 0 || e != api.OK {
		t.Errorf("%s: Decode = %v, %d, %d; want %v", name, back, place, e, list)
	}
}

// refuses looks at a list that can't be written.
func refuses(t *testing.T, name string, list []api.Txn, place int, want api.Errno) {
	t.Helper()
	if p, at, e := logfile.Encode(list); len(p) != 0 || at != place || e != want {
		t.Errorf("%s: Encode = %v, %d, %d; want nothing, %d, %d", name, p, at, e, place, want)
	}
}

// faults looks at bytes that are no log, whole and byte by byte.
func faults(t *testing.T, name string, data []byte, place int, want api.Errno) {
	t.Helper()
	if list, at, e := logfile.Decode(data); len(list) != 0 || at != place || e != want {
		t.Errorf("%s: Decode = %v, %d, %d; want nothing, %d, %d", name, list, at, e, place, want)
	}
	s := logfile.NewScanner()
	for _, b := range data {
		s.Feed([]byte{b})
		drain(s)
	}
	s.End()
	drain(s)
	if txn, ok, e := s.Next(); !sameTxn(txn, api.Txn{}) || ok || e != want || s.Offset() != place || s.Finished() {
		t.Errorf("%s: byte by byte %v, %v, %d at %d, %v; want %d at %d", name, txn, ok, e, s.Offset(), s.Finished(), want, place)
	}
}

// drain asks for transactions as long as there are any.
func drain(s *logfile.Scanner) []api.Txn {
	var list []api.Txn
	for {
		txn, ok, _ := s.Next()
		if !ok {
			return list
		}
		list = append(list, txn)
	}
}

// state is what a scanner tells of itself.
type state struct {
	offset, count int
	finished      bool
}

func stateOf(s *logfile.Scanner) state { return state{s.Offset(), s.Count(), s.Finished()} }

// nextIs looks at what a Next answers that has no transaction, and at the
// scanner behind it.
func nextIs(t *testing.T, name string, s *logfile.Scanner, want api.Errno, then state) {
	t.Helper()
	txn, ok, e := s.Next()
	if !sameTxn(txn, api.Txn{}) || ok || e != want {
		t.Errorf("%s: Next = %v, %v, %d; want nothing, %d", name, txn, ok, e, want)
	}
	if got := stateOf(s); got != then {
		t.Errorf("%s: then %v; want %v", name, got, then)
	}
}

// nextGives looks at what a Next answers that has a transaction.
func nextGives(t *testing.T, name string, s *logfile.Scanner, want api.Txn, then state) {
	t.Helper()
	txn, ok, e := s.Next()
	if !sameTxn(txn, want) || !ok || e != api.OK {
		t.Errorf("%s: Next = %v, %v, %d; want %v", name, txn, ok, e, want)
	}
	if got := stateOf(s); got != then {
		t.Errorf("%s: then %v; want %v", name, got, then)
	}
}

func fed(data ...byte) *logfile.Scanner {
	s := logfile.NewScanner()
	s.Feed(data)
	return s
}

// P7.1, P7.2: the form, both ways.
func TestForm(t *testing.T) {
	writes(t, "no transactions", nil, magic(0, 0))
	writes(t, "none, not nil", []api.Txn{}, magic(0, 0))
	writes(t, "one", []api.Txn{small()}, slices.Concat(magic(), smallEntry(), []byte{0, 1}))
	writes(t, "two", []api.Txn{small(), {Seq: 3}}, slices.Concat(magic(), smallEntry(), []byte{8, 0, 3, 0, 0, 0, 0, 0, 0, 0, 2}))
	// A body of 8 + 27*5 = 143 bytes: its number has two bytes.
	body, _ := record.Encode(writer(5))
	writes(t, "a number of two bytes", []api.Txn{writer(5)}, slices.Concat(magic(143, 1), body, []byte{0, 1}))
	writes(t, "300 of them", slices.Repeat([]api.Txn{small()}, 300), slices.Concat(magic(), bytes.Repeat(smallEntry(), 300), []byte{0, 172, 2}))
}

// P7.1: how many transactions there may be.
func TestEncodeMany(t *testing.T) {
	list := slices.Repeat([]api.Txn{small()}, api.MaxTxns)
	writes(t, "the most", list, slices.Concat(magic(), bytes.Repeat(smallEntry(), api.MaxTxns), []byte{0, 128, 32}))
	list = append(list, small())
	refuses(t, "one more", list, 0, api.ErrTxns)
	list[7].Status = 2
	refuses(t, "one more, and one of them wrong", list, 0, api.ErrTxns)
	refuses(t, "the most, and one of them wrong", list[:api.MaxTxns], 7, api.ErrField)
	refuses(t, "wrong ones, too many", make([]api.Txn, 2*api.MaxTxns), 0, api.ErrTxns)
}

// P7.1: the first transaction that isn't right.
func TestEncodeWrong(t *testing.T) {
	field, op := small(), small()
	field.Start = -1
	op.Ops = []api.Op{{}}
	ops := writer(api.MaxOps + 1)
	for _, wrong := range []struct {
		txn  api.Txn
		code api.Errno
	}{{field, api.ErrField}, {ops, api.ErrOps}, {op, api.ErrOp}, {api.Txn{End: math.MinInt}, api.ErrField}} {
		refuses(t, "alone", []api.Txn{wrong.txn}, 0, wrong.code)
		refuses(t, "the last", []api.Txn{small(), small(), wrong.txn}, 2, wrong.code)
		refuses(t, "the first of several", []api.Txn{small(), wrong.txn, field, ops, op}, 1, wrong.code)
	}
}

// P7.2, examples 1 and 2.
func TestExamples(t *testing.T) {
	writes(t, "example 1", nil, magic(0, 0))
	faults(t, "example 2", magic(0, 1), 5, api.ErrTotal)
	faults(t, "example 2", []byte{80, 82, 78}, 2, api.ErrMagic)
	faults(t, "example 2", []byte{80, 82}, 2, api.ErrEnd)
	faults(t, "example 2", magic(0, 0, 0), 6, api.ErrTail)
	faults(t, "example 2", magic(3, 1), 4, api.ErrEnd)
	faults(t, "example 2", magic(1, 200), 5, api.ErrEnd)
	faults(t, "example 2", magic(129, 4), 4, api.ErrRange)
}

// P7.2: the head's bytes one by one.
func TestHead(t *testing.T) {
	for i := range 4 {
		faults(t, "cut", magic()[:i], i, api.ErrEnd)
		for b := range 256 {
			head := magic(0, 0)
			if byte(b) == head[i] {
				continue
			}
			head[i] = byte(b)
			faults(t, "another byte", head, i, api.ErrMagic)
			faults(t, "another byte as the last", head[:i+1], i, api.ErrMagic)
		}
	}
	faults(t, "two others", []byte{80, 1, 1, 1}, 1, api.ErrMagic)
	faults(t, "nil", nil, 0, api.ErrEnd)
}

// P7.2: the number of an entry.
func TestEntryNumber(t *testing.T) {
	for _, ahead := range [][]byte{nil, smallEntry(), bytes.Repeat(smallEntry(), 3)} {
		at := func(rest ...byte) []byte { return slices.Concat(magic(), ahead, rest) }
		place := 4 + len(ahead)
		faults(t, "none", at(), place, api.ErrEnd)
		faults(t, "cut", at(128), place, api.ErrEnd)
		faults(t, "seven bytes of it", at(255, 255, 255, 255, 255, 255, 255), place, api.ErrEnd)
		faults(t, "eight bytes of it", at(255, 255, 255, 255, 255, 255, 255, 128), place, api.ErrLong)
		faults(t, "a longer form", at(136, 0), place, api.ErrLong)
		faults(t, "a longer form of 0", at(128, 0), place, api.ErrLong)
		faults(t, "a longer form, and more behind it", at(136, 0, 1, 0, 5, 9, 5, 9, 1, 0, 0, 1), place, api.ErrLong)
		faults(t, "the greatest", at(255, 255, 255, 255, 255, 255, 255, 127), place, api.ErrRange)
		faults(t, "513", append(at(129, 4), make([]byte, 600)...), place, api.ErrRange)
		faults(t, "512, and all zeros", append(at(128, 4), make([]byte, 600)...), place+2+8, api.ErrTail)
		faults(t, "512, and one too few", append(at(128, 4), make([]byte, 511)...), place, api.ErrEnd)
		faults(t, "8, and one too few", at(8, 1, 0, 5, 9, 5, 9, 1), place, api.ErrEnd)
		faults(t, "8, and nothing", at(8), place, api.ErrEnd)
	}
}

// P7.2: what layer 6 tells of a body, counted from the log's beginning.
func TestBody(t *testing.T) {
	ahead := bytes.Repeat(smallEntry(), 2)
	at := func(rest ...byte) []byte { return slices.Concat(magic(), ahead, rest) }
	behind := []byte{8, 1, 0, 5, 9, 5, 9, 1, 0, 0, 3}
	for _, c := range []struct {
		name  string
		entry []byte
		place int
		want  api.Errno
	}{
		{"ends where the number says", []byte{7, 1, 0, 5, 9, 5, 9, 1}, 8, api.ErrEnd},
		{"one byte of a number", []byte{1, 200}, 1, api.ErrEnd},
		{"a tail", []byte{9, 1, 0, 5, 9, 5, 9, 1, 0, 0}, 9, api.ErrTail},
		{"a status", []byte{8, 1, 0, 5, 9, 5, 9, 2, 0}, 7, api.ErrRange},
		{"a long number", []byte{9, 1, 0, 128, 0, 9, 5, 9, 1, 0}, 3, api.ErrLong},
		{"a tag", []byte{11, 1, 0, 5, 9, 5, 9, 1, 1, 5, 1, 97}, 9, api.ErrTag},
		{"a key", []byte{10, 1, 0, 5, 9, 5, 9, 1, 1, 4, 0}, 10, api.ErrRange},
		{"a key that is cut", []byte{11, 1, 0, 5, 9, 5, 9, 1, 1, 4, 2, 97}, 10, api.ErrEnd},
	} {
		place := 4 + len(ahead) + c.place
		faults(t, c.name, at(c.entry...), place, c.want)
		faults(t, c.name+", and more behind it", at(append(c.entry, behind...)...), place, c.want)
	}
	// The body's first byte stands two bytes behind the entry's here.
	faults(t, "a number of two bytes", append(at(128, 1), make([]byte, 128)...), 4+len(ahead)+2+8, api.ErrTail)
}

// P7.2: how many transactions a log may have.
func TestDecodeMany(t *testing.T) {
	most := append(magic(), bytes.Repeat(smallEntry(), api.MaxTxns)...)
	end := len(most)
	with := func(rest ...byte) []byte { return slices.Concat(most, rest) }
	faults(t, "one more", with(append(smallEntry(), 0, 129, 32)...), end, api.ErrTxns)
	faults(t, "one more, cut", with(8), end, api.ErrTxns)
	faults(t, "one more, malformed", with(1, 200), end, api.ErrTxns)
	faults(t, "a number past its range", with(129, 4), end, api.ErrRange)
	faults(t, "a number's longer form", with(136, 0), end, api.ErrLong)
	faults(t, "a number that is cut", with(136), end, api.ErrEnd)
	faults(t, "a wrong total", with(0, 255, 31), end+1, api.ErrTotal)
	faults(t, "a total past its range", with(0, 129, 32), end+1, api.ErrRange)
	faults(t, "a tail", with(0, 128, 32, 8), end+3, api.ErrTail)
}

// P7.2: the foot's number of transactions.
func TestFoot(t *testing.T) {
	for n := range 3 {
		at := func(rest ...byte) []byte {
			return slices.Concat(magic(), bytes.Repeat(smallEntry(), n), []byte{0}, rest)
		}
		place := 4 + 9*n + 1
		faults(t, "none", at(), place, api.ErrEnd)
		faults(t, "cut", at(128), place, api.ErrEnd)
		faults(t, "a longer form", at(byte(128+n), 0), place, api.ErrLong)
		faults(t, "eight bytes of it", at(255, 255, 255, 255, 255, 255, 255, 255), place, api.ErrLong)
		faults(t, "4097", at(129, 32), place, api.ErrRange)
		faults(t, "4096", at(128, 32), place, api.ErrTotal)
		faults(t, "one more", at(byte(n+1)), place, api.ErrTotal)
		faults(t, "a wrong total and a tail", at(byte(n+1), 0), place, api.ErrTotal)
		faults(t, "another 128", at(byte(128+n), 1), place, api.ErrTotal)
		if n > 0 {
			faults(t, "one less", at(byte(n-1)), place, api.ErrTotal)
		}
		for _, tail := range [][]byte{{0}, {255}, smallEntry(), {0, byte(n)}, make([]byte, 5000)} {
			faults(t, "a tail", at(append([]byte{byte(n)}, tail...)...), place+1, api.ErrTail)
		}
	}
}

// P7.3: bytes come until the end is said.
func TestFeedAndEnd(t *testing.T) {
	s := logfile.NewScanner()
	if got := stateOf(s); got != (state{}) {
		t.Errorf("a new scanner: %v", got)
	}
	for _, p := range [][]byte{nil, {}, magic(), nil, {0, 0}} {
		if e := s.Feed(p); e != api.OK {
			t.Errorf("Feed(%v) = %d", p, e)
		}
	}
	if e := s.End(); e != api.OK {
		t.Errorf("End = %d", e)
	}
	for range 2 {
		if a, b, c := s.Feed([]byte{9}), s.Feed(nil), s.End(); a != api.ErrOver || b != api.ErrOver || c != api.ErrOver {
			t.Errorf("behind the end: %d, %d, %d", a, b, c)
		}
	}
	// What was refused is no part of the log.
	nextIs(t, "the whole", s, api.OK, state{6, 0, true})
}

// P7.3: a fault changes nothing of what Feed and End answer.
func TestFeedBehindFault(t *testing.T) {
	s := fed(80, 81)
	nextIs(t, "the fault", s, api.ErrMagic, state{1, 0, false})
	if a, b := s.Feed([]byte{82, 79, 1}), s.Feed(nil); a != api.OK || b != api.OK {
		t.Errorf("Feed behind a fault: %d, %d", a, b)
	}
	nextIs(t, "fed more", s, api.ErrMagic, state{1, 0, false})
	if e := s.End(); e != api.OK {
		t.Errorf("End behind a fault: %d", e)
	}
	nextIs(t, "ended", s, api.ErrMagic, state{1, 0, false})
	if a, b := s.End(), s.Feed(nil); a != api.ErrOver || b != api.ErrOver {
		t.Errorf("behind both: %d, %d", a, b)
	}
	nextIs(t, "still", s, api.ErrMagic, state{1, 0, false})
}

// P7.4, P7.5: the head is read once its four bytes are there, and fails as soon
// as one of them does.
func TestNextHead(t *testing.T) {
	s := fed()
	nextIs(t, "nothing", s, api.OK, state{})
	for _, b := range magic()[:3] {
		s.Feed([]byte{b})
		nextIs(t, "a piece of the head", s, api.OK, state{})
	}
	s.Feed([]byte{1})
	if got := stateOf(s); got != (state{}) {
		t.Errorf("Feed reads nothing: %v", got)
	}
	nextIs(t, "the head", s, api.OK, state{4, 0, false})
	for i := range 4 {
		wrong := append(magic()[:i:i], 0)
		nextIs(t, "a wrong byte", fed(wrong...), api.ErrMagic, state{i, 0, false})
		s := fed(magic()[:i]...)
		nextIs(t, "cut", s, api.OK, state{})
		s.End()
		if got := stateOf(s); got != (state{}) {
			t.Errorf("End reads nothing: %v", got)
		}
		nextIs(t, "cut, and ended", s, api.ErrEnd, state{i, 0, false})
		nextIs(t, "again", s, api.ErrEnd, state{i, 0, false})
	}
}

// P7.4, example 3: an entry is waited for, and nothing of it read.
func TestNextWaits(t *testing.T) {
	s := fed(magic(3)...)
	nextIs(t, "example 3", s, api.OK, state{4, 0, false})
	nextIs(t, "again", s, api.OK, state{4, 0, false})
	s.End()
	nextIs(t, "ended", s, api.ErrEnd, state{4, 0, false})

	body, _ := record.Encode(writer(5))
	s = fed(magic()...)
	for _, b := range slices.Concat([]byte{143, 1}, body) {
		nextIs(t, "not yet", s, api.OK, state{4, 0, false})
		s.Feed([]byte{b})
	}
	nextGives(t, "the entry", s, writer(5), state{149, 1, false})
	nextIs(t, "the next one", s, api.OK, state{149, 1, false})
	s.Feed([]byte{0})
	nextIs(t, "half a foot", s, api.OK, state{149, 1, false})
	s.End()
	nextIs(t, "half a foot, ended", s, api.ErrEnd, state{150, 1, false})
}

// P7.4: what can be told is told before the end is said, and no sooner than it
// can be.
func TestNextAtOnce(t *testing.T) {
	most := append(magic(), bytes.Repeat(smallEntry(), api.MaxTxns)...)
	for _, c := range []struct {
		name  string
		data  []byte
		place int
		want  api.Errno
	}{
		{"a number's longer form", magic(128, 0), 4, api.ErrLong},
		{"a number's eighth byte", magic(255, 255, 255, 255, 255, 255, 255, 128), 4, api.ErrLong},
		{"a great number", magic(129, 4), 4, api.ErrRange},
		{"a body that ends", magic(2, 1, 200), 6, api.ErrEnd},
		{"a body's number", magic(2, 128, 0), 5, api.ErrLong},
		{"a total", magic(0, 1), 5, api.ErrTotal},
		{"a total's longer form", magic(0, 128, 0), 5, api.ErrLong},
		{"a total's eighth byte", magic(0, 128, 128, 128, 128, 128, 128, 128, 128), 5, api.ErrLong},
		{"a great total", magic(0, 129, 32), 5, api.ErrRange},
		{"a tail", magic(0, 0, 0), 6, api.ErrTail},
		{"one too many", append(bytes.Clone(most), 8), len(most), api.ErrTxns},
	} {
		s := fed(c.data[:len(c.data)-1]...)
		count := len(drain(s))
		if _, ok, e := s.Next(); ok || e != api.OK {
			t.Errorf("%s: %d already without its last byte", c.name, e)
		}
		s.Feed(c.data[len(c.data)-1:])
		nextIs(t, c.name, s, c.want, state{c.place, count, false})
		nextIs(t, c.name+" again", s, c.want, state{c.place, count, false})
	}
}

// P7.4: a fault doesn't come ahead of the transactions before it, and is told
// ever after.
func TestNextFaultInTurn(t *testing.T) {
	s := fed(slices.Concat(magic(), smallEntry(), smallEntry(), []byte{0, 3}, smallEntry())...)
	nextGives(t, "the first", s, small(), state{13, 1, false})
	nextGives(t, "the second", s, small(), state{22, 2, false})
	for range 3 {
		nextIs(t, "the fault", s, api.ErrTotal, state{23, 2, false})
	}
	if e := s.End(); e != api.OK {
		t.Errorf("End = %d", e)
	}
	nextIs(t, "ended", s, api.ErrTotal, state{23, 2, false})
}

// P7.5: all that it takes to be finished.
func TestFinished(t *testing.T) {
	whole := slices.Concat(magic(), smallEntry(), []byte{0, 1})
	s := fed(whole...)
	s.End()
	if s.Finished() {
		t.Error("finished before anything was read")
	}
	nextGives(t, "the entry", s, small(), state{13, 1, false})
	for range 2 {
		nextIs(t, "the foot", s, api.OK, state{15, 1, true})
	}

	s = fed(whole...)
	drain(s)
	if got := stateOf(s); got != (state{15, 1, false}) {
		t.Errorf("before the end is said: %v", got)
	}
	s.End()
	if got := stateOf(s); got != (state{15, 1, true}) {
		t.Errorf("the foot was read, and the end said: %v", got)
	}

	s = fed(whole...)
	drain(s)
	s.Feed([]byte{7, 7})
	if got := stateOf(s); got != (state{15, 1, false}) {
		t.Errorf("a tail: %v", got)
	}
	s.End()
	if got := stateOf(s); got != (state{15, 1, false}) {
		t.Errorf("a tail that no Next has seen: %v", got)
	}
	nextIs(t, "a tail", s, api.ErrTail, state{15, 1, false})
	if s.Finished() {
		t.Error("finished with a fault")
	}
}

// Scanners have nothing in common.
func TestApart(t *testing.T) {
	a, b := logfile.NewScanner(), logfile.NewScanner()
	a.Feed(magic(0, 0))
	b.Feed([]byte{1})
	b.End()
	nextIs(t, "one", a, api.OK, state{6, 0, false})
	nextIs(t, "the other", b, api.ErrMagic, state{0, 0, false})
	nextIs(t, "the one again", a, api.OK, state{6, 0, false})
}

// What is handed in is not changed, its spare room neither, and not kept;
// answers share no memory.
func TestOwnMemory(t *testing.T) {
	list := append(make([]api.Txn, 0, 4), writer(1), writer(1))
	log, _, _ := logfile.Encode(list)
	again, _, _ := logfile.Encode(list)
	if rest := list[:4]; !sameList(rest, []api.Txn{writer(1), writer(1), {}, {}}) {
		t.Errorf("Encode has changed its argument: %v", rest)
	}
	room := append(make([]byte, 0, len(log)+50), log...)
	clear(log[:cap(log)])
	if !bytes.Equal(again, room) {
		t.Error("two logs share memory")
	}

	spare := room[:cap(room)]
	for i := len(room); i < len(spare); i++ {
		spare[i] = 7
	}
	before := bytes.Clone(spare)
	s := logfile.NewScanner()
	for i := range 3 {
		s.Feed(room[i*20 : min(len(room), i*20+20)])
	}
	s.Feed(room[60:])
	first, _, _ := logfile.Decode(room)
	second, _, _ := logfile.Decode(room)
	if !bytes.Equal(spare, before) {
		t.Error("an argument was changed")
	}
	clear(spare)
	third := drain(s)
	first[0].Ops[0].Key = "zz"
	first[0].Ops = append(first[0].Ops, api.Op{Key: "q"})
	first[1] = api.Txn{}
	if !sameList(second, list) || !sameList(third, list) {
		t.Errorf("memory is shared: %v, %v", second, third)
	}
}
