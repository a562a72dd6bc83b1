package rules_test

import (
	"math"
	"slices"
	"strings"
	"testing"

	"proctor/api"
	"proctor/record"
	"proctor/rows"
	"proctor/rules"
)

// viol gives a violation without an operation, a key and values.
func viol(kind, time, txn, witness, from, to int) api.Viol {
	return api.Viol{Kind: kind, Time: time, Txn: txn, Op: -1, Witness: witness, From: from, To: to}
}

// times gives a transaction with nothing but its times.
func times(start, end, invoke, back int) api.Txn {
	return api.Txn{Start: start, End: end, Invoke: invoke, Return: back}
}

func shaped(t *testing.T, index int, txn api.Txn, eps int, want ...api.Viol) {
	t.Helper()
	if list, e := rules.Shape(index, txn, eps); e != api.OK || !slices.Equal(list, want) {
		t.Errorf("Shape(%d, %+v, %d) = %+v, %d; want %+v", index, txn, eps, list, e, want)
	}
}

func misshaped(t *testing.T, index int, txn api.Txn, eps int, want api.Errno) {
	t.Helper()
	if list, e := rules.Shape(index, txn, eps); len(list) != 0 || e != want {
		t.Errorf("Shape(%d, %+v, %d) = %+v, %d; want %d", index, txn, eps, list, e, want)
	}
}

func gives(t *testing.T, index int, txn api.Txn, want ...rows.Row) {
	t.Helper()
	list, e := rules.Rows(index, txn)
	if e != api.OK || !slices.Equal(list, want) {
		t.Errorf("Rows(%d, %+v) = %+v, %d; want %+v", index, txn, list, e, want)
	}
	for _, r := range list {
		if !rows.Valid(r) {
			t.Errorf("Rows(%d, %+v) gives %+v, which isn't right", index, txn, r)
		}
	}
}

func givesNone(t *testing.T, index int, txn api.Txn, want api.Errno) {
	t.Helper()
	if list, e := rules.Rows(index, txn); len(list) != 0 || e != want {
		t.Errorf("Rows(%d, %+v) = %+v, %d; want %d", index, txn, list, e, want)
	}
}

// row gives a session row.
func row(session, seq, index, from, to int) rows.Row {
	return rows.Row{Kind: rows.RowSession, Time: session, Seq: seq, Index: index, From: from, To: to}
}

func takes(t *testing.T, w *rules.Walk, r rows.Row, want ...api.Viol) {
	t.Helper()
	if list, e := w.Take(r); e != api.OK || !slices.Equal(list, want) {
		t.Errorf("Take(%+v) = %+v, %d; want %+v", r, list, e, want)
	}
}

func refuses(t *testing.T, w *rules.Walk, r rows.Row, want api.Errno) {
	t.Helper()
	if list, e := w.Take(r); len(list) != 0 || e != want {
		t.Errorf("Take(%+v) = %+v, %d; want %d", r, list, e, want)
	}
}

// The chapter's examples.
func TestExamples(t *testing.T) {
	inverted, client := viol(api.KindInverted, 9, 4, -1, 9, 9), viol(api.KindClient, 9, 4, -1, 12, 11)
	shaped(t, 4, times(9, 9, 12, 11), 2, inverted, client, viol(api.KindEarly, 9, 4, -1, 12, 9))
	shaped(t, 4, times(9, 9, 12, 11), 3, inverted, client)

	w := rules.NewWalk()
	takes(t, w, row(1, 0, 5, 3, 8))
	takes(t, w, row(1, 0, 6, 9, 10), viol(api.KindRepeat, 9, 6, 5, 8, 9))
	takes(t, w, row(1, 1, 2, 9, 12), viol(api.KindSession, 9, 2, 6, 10, 9))
}

// The document's examples of the whole, 7 and 8.
func TestExamplesOfTheWhole(t *testing.T) {
	inverted := viol(api.KindInverted, 5, 0, -1, 5, 5)
	shaped(t, 0, times(5, 5, 9, 9), 0, inverted, viol(api.KindEarly, 5, 0, -1, 9, 5))
	shaped(t, 0, times(5, 5, 9, 9), 4, inverted)

	w := rules.NewWalk()
	takes(t, w, row(0, 0, 0, 1, 9))
	takes(t, w, row(0, 1, 1, 5, 8), viol(api.KindSession, 5, 1, 0, 9, 5))
}

// P17.1: each rule at its edge, and a step to both sides of it.
func TestShapeEdges(t *testing.T) {
	const i = 7
	// Start isn't below End.
	shaped(t, i, times(50, 51, 50, 51), 0)
	shaped(t, i, times(50, 50, 50, 50), 0, viol(api.KindInverted, 50, i, -1, 50, 50))
	shaped(t, i, times(51, 50, 50, 51), 0, viol(api.KindInverted, 51, i, -1, 51, 50))
	// Return is below Invoke.
	shaped(t, i, times(50, 60, 60, 61), 10)
	shaped(t, i, times(50, 60, 60, 60), 10)
	shaped(t, i, times(50, 60, 60, 59), 10, viol(api.KindClient, 50, i, -1, 60, 59))
	// Start plus eps is below Invoke.
	shaped(t, i, times(50, 60, 54, 60), 5)
	shaped(t, i, times(50, 60, 55, 60), 5)
	shaped(t, i, times(50, 60, 56, 60), 5, viol(api.KindEarly, 50, i, -1, 56, 50))
	shaped(t, i, times(50, 60, 51, 60), 0, viol(api.KindEarly, 50, i, -1, 51, 50))
	// End is above Return plus eps.
	shaped(t, i, times(50, 60, 50, 56), 5)
	shaped(t, i, times(50, 60, 50, 55), 5)
	shaped(t, i, times(50, 60, 50, 54), 5, viol(api.KindLate, 60, i, -1, 60, 54))
	shaped(t, i, times(50, 60, 50, 59), 0, viol(api.KindLate, 60, i, -1, 60, 59))
}

// P17.1: all four rules can be broken by one transaction; what is told stands in
// the order of the list, not of the times.
func TestShapeAll(t *testing.T) {
	shaped(t, 3, times(40, 30, 50, 20), 9,
		viol(api.KindInverted, 40, 3, -1, 40, 30), viol(api.KindClient, 40, 3, -1, 50, 20),
		viol(api.KindEarly, 40, 3, -1, 50, 40), viol(api.KindLate, 30, 3, -1, 30, 20))
	shaped(t, 3, times(40, 30, 50, 20), 10,
		viol(api.KindInverted, 40, 3, -1, 40, 30), viol(api.KindClient, 40, 3, -1, 50, 20))
}

// P17.1: neither who did a transaction nor how it ended nor its operations count.
func TestShapeLooksAtTimes(t *testing.T) {
	for _, status := range []int{api.Aborted, api.Committed} {
		txn := api.Txn{Session: 9, Seq: 8, Start: 5, End: 7, Invoke: 6, Return: 9, Status: status,
			Ops: []api.Op{{Kind: api.OpRead, Key: "a", Found: true, Value: "x"}, {Kind: api.OpDelete, Key: "a"}}}
		shaped(t, 0, txn, 0, viol(api.KindEarly, 5, 0, -1, 6, 5))
		shaped(t, 0, txn, 1)
	}
}

// P17.1: the least and the greatest places, times and skews.
func TestShapeOutermost(t *testing.T) {
	const last, most = api.MaxTxns - 1, api.MaxTime
	shaped(t, last, times(0, most, most, 0), 0,
		viol(api.KindClient, 0, last, -1, most, 0), viol(api.KindEarly, 0, last, -1, most, 0), viol(api.KindLate, most, last, -1, most, 0))
	shaped(t, last, times(0, most, most, 0), most-1,
		viol(api.KindClient, 0, last, -1, most, 0), viol(api.KindEarly, 0, last, -1, most, 0), viol(api.KindLate, most, last, -1, most, 0))
	shaped(t, last, times(0, most, most, 0), most, viol(api.KindClient, 0, last, -1, most, 0))
	shaped(t, 0, times(most-1, most, most, most), most)
	shaped(t, 0, times(most, most, most, most), most, viol(api.KindInverted, most, 0, -1, most, most))
	shaped(t, 0, times(0, 0, 0, 0), 0, viol(api.KindInverted, 0, 0, -1, 0, 0))
}

// wrongTxns gives transactions that aren't right, with the error of each.
func wrongTxns() map[api.Errno][]api.Txn {
	op := api.Op{Kind: api.OpRead, Key: "a"}
	return map[api.Errno][]api.Txn{
		api.ErrField: {
			{End: 1, Status: 2}, {End: 1, Status: -1}, {End: 1, Session: -1}, {End: 1, Session: api.MaxId + 1},
			{End: 1, Seq: -1}, {End: 1, Seq: api.MaxId + 1}, {Start: -1}, {End: api.MaxTime + 1}, {Invoke: -1},
			{Return: api.MaxTime + 1}, times(math.MaxInt, math.MinInt, math.MaxInt, math.MinInt),
			{Status: 2, Ops: make([]api.Op, api.MaxOps+1)},
		},
		api.ErrOps: {{End: 1, Ops: slices.Repeat([]api.Op{op}, api.MaxOps+1)}, {End: 1, Ops: make([]api.Op, api.MaxOps+1)}},
		api.ErrOp:  {{End: 1, Ops: []api.Op{op, {Kind: api.OpRead}}}, {Ops: []api.Op{{Kind: 4, Key: "a"}}}},
	}
}

// P17.1, P17.2: wrong arguments, each alone and with the others behind it in the
// chapter's order.
func TestWrongArguments(t *testing.T) {
	right := times(1, 2, 1, 2)
	wrong := api.Txn{Status: 2}
	for _, index := range []int{math.MinInt, -1, api.MaxTxns, math.MaxInt} {
		for _, txn := range []api.Txn{right, wrong} {
			misshaped(t, index, txn, 0, api.ErrIndex)
			misshaped(t, index, txn, -1, api.ErrIndex)
			givesNone(t, index, txn, api.ErrIndex)
		}
	}
	for _, index := range []int{0, api.MaxTxns - 1} {
		for _, eps := range []int{math.MinInt, -1, api.MaxTime + 1, math.MaxInt} {
			misshaped(t, index, right, eps, api.ErrEps)
			misshaped(t, index, wrong, eps, api.ErrEps)
		}
		for want, list := range wrongTxns() {
			for _, txn := range list {
				misshaped(t, index, txn, 0, want)
				misshaped(t, index, txn, api.MaxTime, want)
				givesNone(t, index, txn, want)
			}
		}
	}
}

// P17.2: the session row, and the start and the end row of a sound transaction.
func TestRows(t *testing.T) {
	txn := api.Txn{Session: 2, Seq: 3, Start: 5, End: 9, Invoke: 4, Return: 8, Status: api.Committed,
		Ops: []api.Op{{Kind: api.OpWrite, Key: "a", Found: true, Value: "x"}}}
	body := "\x02\x03\x05\x09\x04\x08\x01\x01\x03\x01a\x01x"
	gives(t, 7, txn, row(2, 3, 7, 5, 9),
		rows.Row{Kind: rows.RowStart, Time: 5, Index: 7},
		rows.Row{Kind: rows.RowEnd, Time: 9, Index: 7, Body: body})
	txn.Status, txn.Ops = api.Aborted, nil
	gives(t, 0, txn, row(2, 3, 0, 5, 9),
		rows.Row{Kind: rows.RowStart, Time: 5},
		rows.Row{Kind: rows.RowEnd, Time: 9, Body: "\x02\x03\x05\x09\x04\x08\x00\x00"})
}

// P17.2: what isn't sound gives its session row alone.
func TestRowsUnsound(t *testing.T) {
	gives(t, 1, times(5, 5, 0, 9), row(0, 0, 1, 5, 5))
	gives(t, 1, times(6, 5, 0, 9), row(0, 0, 1, 6, 5))
	gives(t, 1, times(api.MaxTime, 0, 0, 9), row(0, 0, 1, api.MaxTime, 0))
	// The clients' ticks don't make it unsound.
	gives(t, 1, times(5, 6, 9, 0), row(0, 0, 1, 5, 6),
		rows.Row{Kind: rows.RowStart, Time: 5, Index: 1},
		rows.Row{Kind: rows.RowEnd, Time: 6, Index: 1, Body: "\x00\x00\x05\x06\x09\x00\x00\x00"})
}

// P17.2: the greatest transaction's rows are right, and its body comes back.
func TestRowsGreatest(t *testing.T) {
	op := api.Op{Kind: api.OpWrite, Key: strings.Repeat("\xff", api.MaxKey), Found: true, Value: strings.Repeat("\x00", api.MaxValue)}
	txn := api.Txn{Session: api.MaxId, Seq: api.MaxId, Start: api.MaxTime - 1, End: api.MaxTime, Invoke: api.MaxTime, Return: api.MaxTime,
		Status: api.Committed, Ops: slices.Repeat([]api.Op{op}, api.MaxOps)}
	body, e := record.Encode(txn)
	if e != api.OK || len(body) != 464 {
		t.Fatalf("a body of %d bytes, %d", len(body), e)
	}
	last := api.MaxTxns - 1
	gives(t, last, txn, row(api.MaxId, api.MaxId, last, api.MaxTime-1, api.MaxTime),
		rows.Row{Kind: rows.RowStart, Time: api.MaxTime - 1, Index: last},
		rows.Row{Kind: rows.RowEnd, Time: api.MaxTime, Index: last, Body: string(body)})
}

// P17.3: a row is held against the one taken last, if it is of its session.
func TestWalk(t *testing.T) {
	w := rules.NewWalk()
	takes(t, w, row(0, 0, 0, 5, 9))
	takes(t, w, row(0, 1, 1, 9, 10))
	takes(t, w, row(0, 2, 2, 9, 20), viol(api.KindSession, 9, 2, 1, 10, 9))
	// Neither the rows ahead of the last one nor gaps of the Seq count.
	takes(t, w, row(0, 7, 3, 20, 21))
	takes(t, w, row(0, 8, 4, 19, 20), viol(api.KindSession, 19, 4, 3, 21, 19))
	takes(t, w, row(0, 9, 5, 20, 30))
	// The first row of a session has none ahead of it, whatever it has.
	takes(t, w, row(1, 9, 6, 0, 5))
	takes(t, w, row(3, 9, 6, 1, 8))
	takes(t, w, row(3, 10, 6, 7, 9), viol(api.KindSession, 7, 6, 6, 8, 7))
}

// P17.3: one Seq is a repeat, whatever the times; then no KindSession is told.
func TestWalkRepeat(t *testing.T) {
	w := rules.NewWalk()
	takes(t, w, row(4, 2, 1, 5, 9))
	takes(t, w, row(4, 2, 3, 9, 12), viol(api.KindRepeat, 9, 3, 1, 9, 9))
	takes(t, w, row(4, 2, 4, 0, 7), viol(api.KindRepeat, 0, 4, 3, 12, 0))
	takes(t, w, row(4, 2, 9, 50, 60), viol(api.KindRepeat, 50, 9, 4, 7, 50))
	takes(t, w, row(4, 3, 0, 60, 61))
	// The same Seq of another session is none.
	takes(t, w, row(5, 3, 1, 0, 61))
}

// P17.3: the rows of transactions that aren't sound count as they stand.
func TestWalkUnsound(t *testing.T) {
	w := rules.NewWalk()
	takes(t, w, row(0, 0, 0, 9, 3))
	takes(t, w, row(0, 1, 1, 3, 3))
	takes(t, w, row(0, 2, 2, 2, 1), viol(api.KindSession, 2, 2, 1, 3, 2))
	takes(t, w, row(0, 3, 3, 1, 5))
}

// P17.3: a walk begins with any right row, the least and the greatest too.
func TestWalkFirst(t *testing.T) {
	for _, first := range []rows.Row{
		row(0, 0, 0, 0, 0), row(0, 0, 0, 0, api.MaxTime), row(0, 0, 0, api.MaxTime, 0),
		row(api.MaxTime, api.MaxId, api.MaxTxns-1, api.MaxTime, api.MaxTime),
	} {
		w := rules.NewWalk()
		takes(t, w, first)
		refuses(t, w, first, api.ErrTurn)
	}
	w := rules.NewWalk()
	takes(t, w, row(api.MaxTime, 0, api.MaxTxns-2, 0, api.MaxTime))
	takes(t, w, row(api.MaxTime, 0, api.MaxTxns-1, api.MaxTime, 0), viol(api.KindRepeat, api.MaxTime, api.MaxTxns-1, api.MaxTxns-2, api.MaxTime, api.MaxTime))
	takes(t, w, row(api.MaxTime, api.MaxId, 0, 0, api.MaxTime))
}

// P17.3: rows that aren't right, and rows of other kinds, are refused and change
// nothing, ahead of the first row and behind it.
func TestWalkWrongRows(t *testing.T) {
	for _, spoil := range []func(r *rows.Row){
		func(r *rows.Row) { r.Kind = 0 },
		func(r *rows.Row) { r.Kind = rows.RowStart },
		func(r *rows.Row) { r.Kind = rows.RowEnd },
		func(r *rows.Row) { r.Kind = 4 },
		func(r *rows.Row) { r.Time = -1 },
		func(r *rows.Row) { r.Time = api.MaxTime + 1 },
		func(r *rows.Row) { r.Seq = -1 },
		func(r *rows.Row) { r.Seq = api.MaxId + 1 },
		func(r *rows.Row) { r.Index = -1 },
		func(r *rows.Row) { r.Index = api.MaxTxns },
		func(r *rows.Row) { r.From = -1 },
		func(r *rows.Row) { r.From = math.MaxInt },
		func(r *rows.Row) { r.To = math.MinInt },
		func(r *rows.Row) { r.To = api.MaxTime + 1 },
		func(r *rows.Row) { r.Body = strings.Repeat("x", api.MaxBody+1) },
	} {
		w := rules.NewWalk()
		early, late := row(2, 3, 4, 5, 9), row(2, 4, 1, 6, 10)
		bad := early
		spoil(&bad)
		refuses(t, w, bad, api.ErrRow)
		takes(t, w, early)
		bad = late
		spoil(&bad)
		refuses(t, w, bad, api.ErrRow)
		takes(t, w, late, viol(api.KindSession, 6, 1, 4, 9, 6))
		// Wrong rows that are out of turn as well.
		bad = early
		spoil(&bad)
		refuses(t, w, bad, api.ErrRow)
	}
}

// P17.3: a row comes behind the one taken last by Time, Seq, Index; one that
// doesn't changes nothing.
func TestWalkTurn(t *testing.T) {
	w := rules.NewWalk()
	takes(t, w, row(5, 5, 5, 10, 20))
	for _, r := range []rows.Row{
		row(5, 5, 5, 10, 20), row(5, 5, 5, 30, 40), row(5, 5, 4, 30, 40), row(5, 4, 9, 30, 40),
		row(4, 9, 9, 30, 40), row(0, 0, 0, 0, 0),
	} {
		refuses(t, w, r, api.ErrTurn)
	}
	takes(t, w, row(5, 5, 6, 19, 30), viol(api.KindRepeat, 19, 6, 5, 20, 19))
	refuses(t, w, row(5, 5, 5, 40, 50), api.ErrTurn)
	takes(t, w, row(5, 6, 0, 29, 35), viol(api.KindSession, 29, 0, 6, 30, 29))
	refuses(t, w, row(5, 5, 7, 40, 50), api.ErrTurn)
	takes(t, w, row(6, 0, 0, 0, 1))
	refuses(t, w, row(5, 7, 0, 40, 50), api.ErrTurn)
}

// P17.3: the Body isn't looked at.
func TestWalkBody(t *testing.T) {
	w := rules.NewWalk()
	early, again, late := row(0, 0, 0, 1, 9), row(0, 0, 0, 1, 9), row(0, 1, 1, 5, 8)
	early.Body, again.Body, late.Body = "?", "!", strings.Repeat("\xff", api.MaxBody)
	takes(t, w, early)
	refuses(t, w, again, api.ErrTurn)
	takes(t, w, late, viol(api.KindSession, 5, 1, 0, 9, 5))
}

// Walks are apart from each other.
func TestWalksApart(t *testing.T) {
	v, w := rules.NewWalk(), rules.NewWalk()
	takes(t, v, row(9, 9, 9, 1, 5))
	takes(t, w, row(0, 0, 0, 1, 2))
	takes(t, v, row(9, 9, 10, 2, 5), viol(api.KindRepeat, 2, 10, 9, 5, 2))
	takes(t, w, row(0, 1, 1, 1, 2), viol(api.KindSession, 1, 1, 0, 2, 1))
}

// What is handed in is not changed, its spare room neither; an answer is new
// memory, spare room too.
func TestOwnMemory(t *testing.T) {
	ops := append(make([]api.Op, 0, 4), api.Op{Kind: api.OpWrite, Key: "a", Found: true, Value: "x"})
	txn := times(9, 30, 12, 11)
	txn.Ops = ops
	before := slices.Clone(ops[:4])
	shape, _ := rules.Shape(4, txn, 2)
	again, _ := rules.Shape(4, txn, 2)
	list, _ := rules.Rows(4, txn)
	other, _ := rules.Rows(4, txn)
	if !slices.Equal(ops[:4], before) {
		t.Errorf("the operations have become %+v", ops[:4])
	}
	keep, kept := slices.Clone(again), slices.Clone(other)
	clear(shape[:cap(shape)])
	clear(list[:cap(list)])
	clear(ops[:4])
	if !slices.Equal(again, keep) || !slices.Equal(other, kept) {
		t.Errorf("answers share memory: %+v, %+v", again, other)
	}

	w := rules.NewWalk()
	takes(t, w, row(0, 0, 0, 1, 9))
	one, _ := w.Take(row(0, 1, 1, 5, 8))
	two, _ := w.Take(row(0, 2, 2, 6, 9))
	clear(one[:cap(one)])
	if !slices.Equal(two, []api.Viol{viol(api.KindSession, 6, 2, 1, 8, 6)}) {
		t.Errorf("answers share memory: %+v", two)
	}
}
