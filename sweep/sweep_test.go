package sweep_test

import (
	"math"
	"slices"
	"strconv"
	"strings"
	"testing"

	"proctor/api"
	"proctor/record"
	"proctor/rows"
	"proctor/sweep"
)

func wrote(key, value string) api.Op {
	return api.Op{Kind: api.OpWrite, Key: key, Found: true, Value: value}
}

func removed(key string) api.Op { return api.Op{Kind: api.OpDelete, Key: key} }

func found(key, value string) api.Op {
	return api.Op{Kind: api.OpRead, Key: key, Found: true, Value: value}
}

func missed(key string) api.Op { return api.Op{Kind: api.OpRead, Key: key} }

func committed(start, end int, ops ...api.Op) api.Txn {
	return api.Txn{Start: start, End: end, Status: api.Committed, Ops: ops}
}

func aborted(start, end int, ops ...api.Op) api.Txn {
	return api.Txn{Start: start, End: end, Status: api.Aborted, Ops: ops}
}

func startRow(place int, t api.Txn) rows.Row {
	return rows.Row{Kind: rows.RowStart, Time: t.Start, Index: place}
}

func endRow(place int, t api.Txn) rows.Row {
	body, e := record.Encode(t)
	if e != api.OK {
		panic("a transaction that isn't right")
	}
	return rows.Row{Kind: rows.RowEnd, Time: t.End, Index: place, Body: string(body)}
}

// events gives the rows of a log, sorted.
func events(log []api.Txn) []rows.Row {
	var list []rows.Row
	for place, t := range log {
		list = append(list, startRow(place, t), endRow(place, t))
	}
	slices.SortFunc(list, func(a, b rows.Row) int { return rows.Compare(rows.ByTime, a, b) })
	return list
}

func fresh(t *testing.T, limit int) *sweep.Sweep {
	t.Helper()
	s, e := sweep.New(limit)
	if s == nil || e != api.OK {
		t.Fatalf("New(%d) = %v, %d", limit, s, e)
	}
	return s
}

// takes looks at a row that is taken, and refuses at one that isn't.
func takes(t *testing.T, s *sweep.Sweep, r rows.Row, want ...api.Viol) {
	t.Helper()
	list, e := s.Take(r)
	if e != api.OK {
		t.Fatalf("Take(%+v) = %d", r, e)
	}
	if !slices.Equal(list, want) {
		t.Errorf("Take(%+v) tells\n%+v; want\n%+v", r, list, want)
	}
}

func refuses(t *testing.T, s *sweep.Sweep, r rows.Row, want api.Errno) {
	t.Helper()
	if list, e := s.Take(r); len(list) != 0 || e != want {
		t.Errorf("Take(%+v) = %v, %d; want %d", r, list, e, want)
	}
}

// stands looks at what a sweep tells of itself.
func stands(t *testing.T, s *sweep.Sweep, open, state, most int) {
	t.Helper()
	if s.Open() != open || s.State() != state || s.Most() != most {
		t.Errorf("Open, State, Most = %d, %d, %d; want %d, %d, %d", s.Open(), s.State(), s.Most(), open, state, most)
	}
	want := api.OK
	if open > 0 {
		want = api.ErrPair
	}
	if e := s.Finish(); e != want {
		t.Errorf("Finish = %d; want %d", e, want)
	}
}

// tells looks at all violations of a whole log.
func tells(t *testing.T, log []api.Txn, want ...api.Viol) {
	t.Helper()
	s := fresh(t, api.MaxState)
	var all []api.Viol
	for _, r := range events(log) {
		list, e := s.Take(r)
		if e != api.OK {
			t.Fatalf("Take(%+v) = %d", r, e)
		}
		all = append(all, list...)
	}
	if e := s.Finish(); e != api.OK {
		t.Errorf("Finish = %d", e)
	}
	if !slices.Equal(all, want) {
		t.Errorf("%+v tells\n%+v; want\n%+v", log, all, want)
	}
}

// The chapter's examples.
func TestExamples(t *testing.T) {
	tells(t, []api.Txn{committed(1, 3, wrote("a", "x")), committed(2, 4, wrote("a", "y"))},
		api.Viol{Kind: api.KindConflict, Time: 4, Txn: 1, Op: 0, Witness: 0, Key: "a", From: 2, To: 3})
	tells(t, []api.Txn{committed(1, 3, wrote("a", "x")), committed(3, 5, missed("a"))},
		api.Viol{Kind: api.KindSnapshot, Time: 5, Txn: 1, Op: 0, Witness: 0, Key: "a", Want: true, Expected: "x", From: 3, To: 3})
}

// The document's examples of the whole, 3 to 6.
func TestExamplesOfTheWhole(t *testing.T) {
	first := committed(1, 4, wrote("a", "x"))
	tells(t, []api.Txn{first, aborted(3, 7, missed("a"), wrote("a", "y"))})
	tells(t, []api.Txn{first, committed(3, 7, missed("a"), wrote("a", "y"))},
		api.Viol{Kind: api.KindConflict, Time: 7, Txn: 1, Op: 1, Witness: 0, Key: "a", From: 3, To: 4})
	tells(t, []api.Txn{first, committed(5, 7, missed("a"))},
		api.Viol{Kind: api.KindSnapshot, Time: 7, Txn: 1, Op: 0, Witness: 0, Key: "a", Want: true, Expected: "x", From: 4, To: 5})
	tells(t, []api.Txn{committed(1, 5, missed("a"), wrote("b", "x")), committed(2, 6, missed("b"), wrote("a", "y"))})
}

// P16.1: the limit is from 0 to MaxState.
func TestNew(t *testing.T) {
	for _, limit := range []int{math.MinInt, -1, api.MaxState + 1, math.MaxInt} {
		if s, e := sweep.New(limit); s != nil || e != api.ErrLimit {
			t.Errorf("New(%d) = %v, %d", limit, s, e)
		}
	}
	for _, limit := range []int{0, 1, api.MaxState} {
		stands(t, fresh(t, limit), 0, 0, 0)
	}
}

// P16.2: a committed transaction is the twin of the first that committed at its end.
func TestTwin(t *testing.T) {
	twin := func(place, start, witness int) api.Viol {
		return api.Viol{Kind: api.KindTwin, Time: 9, Txn: place, Op: -1, Witness: witness, From: start, To: 9}
	}
	tells(t, []api.Txn{committed(4, 9), committed(0, 9), committed(7, 9)}, twin(1, 0, 0), twin(2, 7, 0))
	// Aborted ones are no twins, neither as witnesses nor by themselves.
	tells(t, []api.Txn{aborted(1, 9), committed(2, 9), aborted(3, 9), committed(4, 9)}, twin(3, 4, 1))
	tells(t, []api.Txn{committed(1, 9), aborted(2, 9)})
	// Other ends are of no account, and neither are starts at that time.
	tells(t, []api.Txn{committed(1, 8), committed(2, 9), committed(3, 10), committed(9, 11)})
	// The witness of another time is forgotten.
	tells(t, []api.Txn{committed(1, 8), committed(0, 8), committed(2, 9), committed(3, 9)},
		api.Viol{Kind: api.KindTwin, Time: 8, Txn: 1, Op: -1, Witness: 0, From: 0, To: 8}, twin(3, 3, 2))
}

// P16.2: the least and the greatest times and places.
func TestOutermost(t *testing.T) {
	last := api.MaxTxns - 1
	s := fresh(t, 9)
	a, b := committed(0, 1, wrote("a", "x")), committed(0, api.MaxTime, wrote("a", "y"))
	c := committed(api.MaxTime-1, api.MaxTime, found("a", "y"))
	takes(t, s, startRow(0, b))
	takes(t, s, startRow(last, a))
	takes(t, s, endRow(last, a))
	takes(t, s, startRow(1, c))
	takes(t, s, endRow(0, b), api.Viol{Kind: api.KindConflict, Time: api.MaxTime, Op: 0, Witness: last, Key: "a", From: 0, To: 1})
	takes(t, s, endRow(1, c),
		api.Viol{Kind: api.KindTwin, Time: api.MaxTime, Txn: 1, Op: -1, Witness: 0, From: api.MaxTime - 1, To: api.MaxTime},
		api.Viol{Kind: api.KindSnapshot, Time: api.MaxTime, Txn: 1, Op: 0, Witness: last, Key: "a", Want: true, Expected: "x", Got: true, Observed: "y", From: 1, To: api.MaxTime - 1})
	stands(t, s, 0, 1, 3)
}

// P16.2: a read behind an own write or delete tells what the last of them left.
func TestInternal(t *testing.T) {
	internal := func(op int, want, got api.Op) api.Viol {
		return api.Viol{Kind: api.KindInternal, Time: 5, Txn: 1, Op: op, Witness: -1, Key: want.Key,
			Want: want.Found, Expected: want.Value, Got: got.Found, Observed: got.Value, From: 2, To: 5}
	}
	before := committed(0, 1, wrote("a", "old"), wrote("b", "old"))
	for _, end := range []func(int, int, ...api.Op) api.Txn{committed, aborted} {
		tells(t, []api.Txn{before, end(2, 5,
			wrote("a", "x"), found("a", "x"), found("a", "old"), missed("a"), found("b", "old"),
			wrote("a", "y"), found("a", "x"), found("a", "y"),
			removed("a"), found("a", "y"), missed("a"),
			wrote("a", ""), found("a", ""), missed("a"), wrote("b", "z"), found("a", "z"))},
			internal(2, found("a", "x"), found("a", "old")),
			internal(3, found("a", "x"), missed("a")),
			internal(6, found("a", "y"), found("a", "x")),
			internal(9, missed("a"), found("a", "y")),
			internal(13, found("a", ""), missed("a")),
			internal(15, found("a", ""), found("a", "z")))
	}
	// What comes behind the read isn't looked at.
	tells(t, []api.Txn{before, committed(2, 5, found("a", "old"), wrote("a", "x"))})
}

// P16.2: any other read tells the version committed last at its start or earlier.
func TestSnapshot(t *testing.T) {
	snapshot := func(op, witness, from int, want, got api.Op) api.Viol {
		return api.Viol{Kind: api.KindSnapshot, Time: 20, Txn: 5, Op: op, Witness: witness, Key: want.Key,
			Want: want.Found, Expected: want.Value, Got: got.Found, Observed: got.Value, From: from, To: 10}
	}
	log := []api.Txn{
		committed(1, 3, wrote("a", "x"), wrote("b", "x"), wrote("c", "")),
		committed(4, 10, wrote("a", "y"), removed("b")),
		committed(10, 11, wrote("a", "z"), wrote("b", "z"), wrote("d", "z")),
		aborted(2, 9, wrote("a", "w"), wrote("d", "w")),
		committed(12, 19),
		{},
	}
	right := []api.Op{found("a", "y"), missed("b"), found("c", ""), missed("d")}
	wrong := []api.Op{found("a", "x"), found("a", "z"), missed("a"), found("b", "x"), found("b", ""), missed("c"), found("c", "x"), found("d", "z"), found("d", "")}
	for _, end := range []func(int, int, ...api.Op) api.Txn{committed, aborted} {
		log[5] = end(10, 20, right...)
		tells(t, log)
		log[5] = end(10, 20, append(wrong, right...)...)
		tells(t, log,
			snapshot(0, 1, 10, found("a", "y"), wrong[0]),
			snapshot(1, 1, 10, found("a", "y"), wrong[1]),
			snapshot(2, 1, 10, found("a", "y"), wrong[2]),
			snapshot(3, 1, 10, missed("b"), wrong[3]),
			snapshot(4, 1, 10, missed("b"), wrong[4]),
			snapshot(5, 0, 3, found("c", ""), wrong[5]),
			snapshot(6, 0, 3, found("c", ""), wrong[6]),
			snapshot(7, -1, 0, missed("d"), wrong[7]),
			snapshot(8, -1, 0, missed("d"), wrong[8]))
	}
}

// P16.2: of versions with one commit the one of the greatest place is the last.
func TestSnapshotOfTwins(t *testing.T) {
	log := []api.Txn{committed(3, 5, wrote("a", "x")), committed(1, 5, wrote("a", "y")), committed(5, 6, found("a", "y"))}
	twins := []api.Viol{
		{Kind: api.KindTwin, Time: 5, Txn: 1, Op: -1, Witness: 0, From: 1, To: 5},
		{Kind: api.KindConflict, Time: 5, Txn: 1, Op: 0, Witness: 0, Key: "a", From: 1, To: 5},
	}
	tells(t, log, twins...)
	log[2] = committed(5, 6, found("a", "x"))
	tells(t, log, append(twins, api.Viol{Kind: api.KindSnapshot, Time: 6, Txn: 2, Op: 0, Witness: 1, Key: "a",
		Want: true, Expected: "y", Got: true, Observed: "x", From: 5, To: 5})...)
}

// P16.2: a commit conflicts, once a key, with the first commit of the key behind its start.
func TestConflict(t *testing.T) {
	conflict := func(op, witness, to int, key string) api.Viol {
		return api.Viol{Kind: api.KindConflict, Time: 20, Txn: 6, Op: op, Witness: witness, Key: key, From: 10, To: to}
	}
	log := []api.Txn{
		committed(1, 10, wrote("a", "0"), wrote("e", "0")),
		committed(2, 12, removed("b")),
		committed(8, 11, wrote("d", "0")),
		aborted(9, 13, wrote("a", "3"), wrote("c", "3")),
		committed(12, 14, wrote("a", "4")),
		committed(14, 16, wrote("a", "5"), removed("d"), found("e", "0")),
		committed(10, 20, missed("e"), found("a", "0"), wrote("c", ""), removed("a"), wrote("b", "6"), wrote("a", "6"), wrote("e", "6"), removed("d"), removed("b")),
	}
	tells(t, log,
		api.Viol{Kind: api.KindSnapshot, Time: 20, Txn: 6, Op: 0, Witness: 0, Key: "e", Want: true, Expected: "0", From: 10, To: 10},
		conflict(3, 4, 14, "a"), conflict(4, 1, 12, "b"), conflict(7, 2, 11, "d"))
	log[6].Status = api.Aborted
	tells(t, log, api.Viol{Kind: api.KindSnapshot, Time: 20, Txn: 6, Op: 0, Witness: 0, Key: "e", Want: true, Expected: "0", From: 10, To: 10})
}

// P16.2: of several that ended first the one of the least place is the witness,
// wherever it started; a commit at the same end ahead of the row counts too.
func TestConflictOfTwins(t *testing.T) {
	w := wrote("a", "x")
	tells(t, []api.Txn{committed(4, 6, w), committed(1, 6, w), committed(5, 7, w), committed(0, 7, w)},
		api.Viol{Kind: api.KindTwin, Time: 6, Txn: 1, Op: -1, Witness: 0, From: 1, To: 6},
		api.Viol{Kind: api.KindConflict, Time: 6, Txn: 1, Op: 0, Witness: 0, Key: "a", From: 1, To: 6},
		api.Viol{Kind: api.KindConflict, Time: 7, Txn: 2, Op: 0, Witness: 0, Key: "a", From: 5, To: 6},
		api.Viol{Kind: api.KindTwin, Time: 7, Txn: 3, Op: -1, Witness: 2, From: 0, To: 7},
		api.Viol{Kind: api.KindConflict, Time: 7, Txn: 3, Op: 0, Witness: 0, Key: "a", From: 0, To: 6})
	tells(t, []api.Txn{committed(0, 7, w), committed(6, 7, w)},
		api.Viol{Kind: api.KindTwin, Time: 7, Txn: 1, Op: -1, Witness: 0, From: 6, To: 7},
		api.Viol{Kind: api.KindConflict, Time: 7, Txn: 1, Op: 0, Witness: 0, Key: "a", From: 6, To: 7})
}

// P16.2: all kinds at one end, by Kind and then Op; and a transaction with
// violations installs what it leaves.
func TestOrderOfKinds(t *testing.T) {
	log := []api.Txn{
		committed(2, 8, wrote("a", "x"), wrote("b", "x")),
		committed(3, 8, wrote("b", "w"), found("c", "?"), missed("b"), wrote("a", "y"), missed("a"), found("d", "?"), removed("b")),
		committed(8, 9, missed("b"), found("a", "y")),
	}
	at := func(v api.Viol) api.Viol {
		v.Time, v.Txn = 8, 1
		return v
	}
	tells(t, log,
		at(api.Viol{Kind: api.KindTwin, Op: -1, Witness: 0, From: 3, To: 8}),
		at(api.Viol{Kind: api.KindInternal, Op: 2, Witness: -1, Key: "b", Want: true, Expected: "w", From: 3, To: 8}),
		at(api.Viol{Kind: api.KindInternal, Op: 4, Witness: -1, Key: "a", Want: true, Expected: "y", From: 3, To: 8}),
		at(api.Viol{Kind: api.KindSnapshot, Op: 1, Witness: -1, Key: "c", Got: true, Observed: "?", To: 3}),
		at(api.Viol{Kind: api.KindSnapshot, Op: 5, Witness: -1, Key: "d", Got: true, Observed: "?", To: 3}),
		at(api.Viol{Kind: api.KindConflict, Op: 0, Witness: 0, Key: "b", From: 3, To: 8}),
		at(api.Viol{Kind: api.KindConflict, Op: 3, Witness: 0, Key: "a", From: 3, To: 8}))
}

// Keys and values are bytes, any of them, held against each other byte by byte.
func TestBytes(t *testing.T) {
	key, value := strings.Repeat("\xff", api.MaxKey), strings.Repeat("\x00", api.MaxValue)
	log := []api.Txn{
		committed(1, 2, wrote(key, value), wrote("a", "\xc3"), wrote("a\x00", "\xff")),
		committed(3, 4, found(key, value), found("a", "\xc3"), found("a\x00", "\xff"), missed(key[1:])),
	}
	tells(t, log)
	log[1].Ops[0] = found(key, value[1:])
	tells(t, log, api.Viol{Kind: api.KindSnapshot, Time: 4, Txn: 1, Op: 0, Witness: 0, Key: key,
		Want: true, Expected: value, Got: true, Observed: value[1:], From: 2, To: 3})
}

// P16.2: rows that aren't right, and session rows, are refused.
func TestWrongRows(t *testing.T) {
	a := committed(1, 5, wrote("a", "x"))
	s := fresh(t, 9)
	for _, spoil := range []func(r *rows.Row){
		func(r *rows.Row) { r.Kind = 0 },
		func(r *rows.Row) { r.Kind = rows.RowSession },
		func(r *rows.Row) { r.Kind = 4 },
		func(r *rows.Row) { r.Time = -1 },
		func(r *rows.Row) { r.Time = api.MaxTime + 1 },
		func(r *rows.Row) { r.Seq = api.MaxId + 1 },
		func(r *rows.Row) { r.Index = -1 },
		func(r *rows.Row) { r.Index = api.MaxTxns },
		func(r *rows.Row) { r.From = -1 },
		func(r *rows.Row) { r.To = api.MaxTime + 1 },
		func(r *rows.Row) { r.Body = strings.Repeat("x", api.MaxBody+1) },
	} {
		for _, r := range []rows.Row{startRow(0, a), endRow(0, a)} {
			spoil(&r)
			refuses(t, s, r, api.ErrRow)
		}
	}
	stands(t, s, 0, 0, 0)
}

// P16.2: what the sweep doesn't look at may be anything that is right.
func TestUnlookedAt(t *testing.T) {
	a := committed(1, 5, wrote("a", "x"))
	first, last := startRow(0, a), endRow(0, a)
	first.Seq, first.From, first.To, first.Body = api.MaxId, api.MaxTime, 1, strings.Repeat("?", api.MaxBody)
	last.Seq, last.From, last.To = 7, 8, 9
	s := fresh(t, 9)
	takes(t, s, first)
	takes(t, s, last)
	stands(t, s, 0, 1, 1)
}

// P16.2: a row comes behind the one taken last, by Time, Kind, Index.
func TestTurn(t *testing.T) {
	a, b, c := committed(1, 5), committed(5, 8), committed(3, 5)
	s := fresh(t, 9)
	takes(t, s, startRow(2, a))
	for _, r := range []rows.Row{startRow(2, a), startRow(1, a), endRow(3, committed(0, 1)), startRow(9, committed(0, 3))} {
		refuses(t, s, r, api.ErrTurn)
	}
	takes(t, s, startRow(3, c))
	takes(t, s, startRow(4, c))
	takes(t, s, startRow(6, c))
	takes(t, s, endRow(4, aborted(3, 5)))
	for _, r := range []rows.Row{endRow(4, c), endRow(3, c), endRow(2, a), startRow(7, committed(4, 9))} {
		refuses(t, s, r, api.ErrTurn)
	}
	takes(t, s, endRow(6, aborted(3, 5)))
	takes(t, s, startRow(0, b))
	refuses(t, s, endRow(9, c), api.ErrTurn)
	refuses(t, s, startRow(0, b), api.ErrTurn)
	takes(t, s, startRow(1, b))
	stands(t, s, 4, 4, 4)
}

// P16.2: a place is started once, and ended while it is open.
func TestPair(t *testing.T) {
	a := committed(1, 5)
	s := fresh(t, 9)
	refuses(t, s, endRow(0, a), api.ErrPair)
	takes(t, s, startRow(0, a))
	refuses(t, s, startRow(0, committed(2, 5)), api.ErrPair)
	refuses(t, s, endRow(1, a), api.ErrPair)
	takes(t, s, endRow(0, a))
	refuses(t, s, startRow(0, committed(5, 6)), api.ErrPair)
	refuses(t, s, endRow(0, committed(1, 6)), api.ErrPair)
	stands(t, s, 0, 0, 1)
	takes(t, s, startRow(1, committed(5, 6)))
	stands(t, s, 1, 1, 1)
}

// P16.2: an end's body is a right record with the times of both rows.
func TestBody(t *testing.T) {
	a := committed(1, 5, wrote("a", "x"))
	s := fresh(t, 9)
	takes(t, s, startRow(0, a))
	whole := endRow(0, a).Body
	for _, body := range []string{
		"", "?", whole[:len(whole)-1], whole + "\x00", strings.Repeat("\x00", api.MaxBody),
		endRow(0, committed(0, 5)).Body, endRow(0, committed(2, 5)).Body,
		endRow(0, committed(1, 4)).Body, endRow(0, committed(1, 6)).Body, endRow(0, committed(5, 1)).Body,
	} {
		refuses(t, s, rows.Row{Kind: rows.RowEnd, Time: 5, Body: body}, api.ErrBody)
	}
	refuses(t, s, rows.Row{Kind: rows.RowEnd, Time: 6, Body: whole}, api.ErrBody)
	stands(t, s, 1, 1, 1)
	takes(t, s, endRow(0, a))
	stands(t, s, 0, 1, 1)
}

// P16.2: of several errors the first by the chapter's order.
func TestOrderOfErrors(t *testing.T) {
	a := committed(4, 6)
	s := fresh(t, 1)
	takes(t, s, startRow(5, a))
	refuses(t, s, rows.Row{Kind: rows.RowStart, Index: -1}, api.ErrRow)
	refuses(t, s, rows.Row{Kind: rows.RowSession, Time: 1}, api.ErrRow)
	refuses(t, s, startRow(5, a), api.ErrTurn)
	refuses(t, s, rows.Row{Kind: rows.RowEnd, Time: 4, Index: 3}, api.ErrTurn)
	refuses(t, s, rows.Row{Kind: rows.RowEnd, Time: 4, Index: 5}, api.ErrTurn)
	refuses(t, s, rows.Row{Kind: rows.RowEnd, Time: 6, Index: 3}, api.ErrPair)
	refuses(t, s, rows.Row{Kind: rows.RowEnd, Time: 6, Index: 5}, api.ErrBody)
	refuses(t, s, startRow(6, a), api.ErrState)
	for _, r := range []rows.Row{{}, {Kind: rows.RowSession}, startRow(5, a), {Kind: rows.RowEnd, Time: 6}, endRow(5, a), startRow(7, committed(9, 10))} {
		refuses(t, s, r, api.ErrState)
	}
	if e := s.Finish(); e != api.ErrState {
		t.Errorf("Finish = %d", e)
	}
}

// The state: what is open and all versions, pruned behind each end alone.
func TestState(t *testing.T) {
	s := fresh(t, 100)
	old := committed(3, 20, found("a", "1"))
	takes(t, s, startRow(0, committed(1, 2)))
	takes(t, s, endRow(0, committed(1, 2, wrote("a", "1"), wrote("b", "1"))))
	stands(t, s, 0, 2, 2)
	takes(t, s, startRow(1, old))
	stands(t, s, 1, 3, 3)
	takes(t, s, startRow(2, committed(4, 5)))
	stands(t, s, 2, 4, 4)
	// The keys count once each; what the old one sees stays.
	takes(t, s, endRow(2, committed(4, 5, wrote("a", "2"), removed("a"), found("c", "?"), wrote("a", "3"))),
		api.Viol{Kind: api.KindSnapshot, Time: 5, Txn: 2, Op: 2, Witness: -1, Key: "c", Got: true, Observed: "?", To: 4})
	stands(t, s, 1, 4, 4)
	takes(t, s, startRow(3, committed(5, 9)))
	takes(t, s, endRow(3, committed(5, 9, found("a", "3"), removed("a"))))
	stands(t, s, 1, 5, 5)
	// An abort leaves nothing.
	takes(t, s, startRow(4, aborted(10, 11)))
	takes(t, s, endRow(4, aborted(10, 11, wrote("a", "4"), wrote("d", "4"))))
	stands(t, s, 1, 5, 6)
	// Only an end prunes; of a deleted key the delete stays.
	takes(t, s, startRow(5, committed(12, 21)))
	takes(t, s, endRow(1, old))
	stands(t, s, 1, 3, 6)
	takes(t, s, endRow(5, committed(12, 21, missed("a"), found("b", "1"), wrote("b", "5"))))
	stands(t, s, 0, 2, 6)
}

// The floor is the least start of what is open, or the end if nothing is.
func TestFloor(t *testing.T) {
	s := fresh(t, 100)
	write := func(place, start, end int) rows.Row {
		return endRow(place, committed(start, end, wrote("a", "x")))
	}
	for place, start := range []int{1, 3, 5, 7} {
		takes(t, s, startRow(place, committed(start, 9)))
	}
	takes(t, s, endRow(0, committed(1, 8, wrote("a", "x"))))
	stands(t, s, 3, 4, 4)
	takes(t, s, startRow(4, committed(9, 10)))
	takes(t, s, write(4, 9, 10))
	stands(t, s, 3, 5, 5)
	// Those in the midst end first: the floor stays with the oldest one.
	takes(t, s, endRow(2, aborted(5, 11)))
	takes(t, s, startRow(5, committed(12, 13)))
	takes(t, s, endRow(3, aborted(7, 13)))
	stands(t, s, 2, 4, 5)
	// The floor goes from 3 to 12 at once, and then to the end itself.
	takes(t, s, endRow(1, aborted(3, 14)))
	stands(t, s, 1, 2, 5)
	takes(t, s, write(5, 12, 15))
	stands(t, s, 0, 1, 5)
}

// What is pruned is never missed: a start at the time of an end that left none
// open sees it, and doesn't conflict with it.
func TestStartAtTheEnd(t *testing.T) {
	s := fresh(t, 2)
	for place := range 50 {
		txn := committed(place, place+1, missed("a"), wrote("a", "x"))
		if place > 0 {
			txn.Ops[0] = found("a", "x")
		}
		takes(t, s, startRow(place, txn))
		takes(t, s, endRow(place, txn))
		stands(t, s, 0, 1, 2-max(0, 1-place))
	}
}

// P16.2: the state may be the limit, and not above it; ahead of the prune.
func TestLimit(t *testing.T) {
	one := committed(1, 3, wrote("a", "x"), wrote("b", "x"))
	two := committed(4, 6, wrote("a", "y"), wrote("b", "y"))
	all := append(events([]api.Txn{one, two}), startRow(2, committed(7, 8)))
	// Which row is the first that is above the limit; -1: none.
	for limit, breaks := range []int{0, 1, 2, 3, -1, -1} {
		s := fresh(t, limit)
		for i, r := range all {
			if i == breaks {
				refuses(t, s, r, api.ErrState)
			}
			if breaks >= 0 && i >= breaks {
				refuses(t, s, r, api.ErrState)
				if e := s.Finish(); e != api.ErrState {
					t.Errorf("Finish = %d", e)
				}
				continue
			}
			takes(t, s, r)
		}
		if breaks < 0 {
			stands(t, s, 1, 3, 4)
		}
	}
}

// P16.2: a row that breaks the sweep tells no violations.
func TestBreakTellsNothing(t *testing.T) {
	s := fresh(t, 1)
	bad := committed(1, 2, found("a", "?"), wrote("a", "x"), wrote("b", "x"))
	takes(t, s, startRow(0, bad))
	refuses(t, s, endRow(0, bad), api.ErrState)
}

// P16.3: Finish changes nothing, whatever it answers.
func TestFinishGoesOn(t *testing.T) {
	s := fresh(t, 9)
	stands(t, s, 0, 0, 0)
	takes(t, s, startRow(0, committed(1, 2)))
	stands(t, s, 1, 1, 1)
	takes(t, s, endRow(0, committed(1, 2)))
	stands(t, s, 0, 0, 1)
	takes(t, s, startRow(1, committed(2, 3)))
	stands(t, s, 1, 1, 1)
}

// An answer is new memory, spare room too.
func TestNewMemory(t *testing.T) {
	play := func(spoil bool) []api.Viol {
		s := fresh(t, 99)
		var all []api.Viol
		for place := range 20 {
			bad := committed(place, place+2, found("a", "?"), wrote("a", "x"), missed("a"))
			takes(t, s, startRow(place, bad))
			if place == 0 {
				continue
			}
			list, _ := s.Take(endRow(place-1, committed(place-1, place+1, bad.Ops...)))
			all = append(all, list...)
			if spoil {
				list = list[:cap(list)]
				clear(list)
			}
		}
		return all
	}
	if !slices.Equal(play(false), play(true)) {
		t.Error("an answer that was spoilt is seen in another")
	}
}

// The greatest sweep: all places, all with as many keys as there can be, one old
// transaction open over half of them, and the floor then rising end by end.
func TestGreatest(t *testing.T) {
	var log []api.Txn
	for i := range api.MaxTxns {
		var ops []api.Op
		for j := range api.MaxOps {
			ops = append(ops, wrote(strconv.Itoa(i/2*api.MaxOps+j), "x"))
		}
		log = append(log, committed(api.MaxTxns+2*i, api.MaxTxns+2*i+1, ops...))
	}
	for i := range api.MaxTxns / 2 {
		log[i] = committed(i, 4*api.MaxTxns+i)
	}
	s := fresh(t, api.MaxState)
	for _, r := range events(log) {
		takes(t, s, r)
	}
	versions := api.MaxTxns / 2 * api.MaxOps
	stands(t, s, 0, versions/2, api.MaxTxns/2+versions)
}
