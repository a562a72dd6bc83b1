package rules_test

import (
	"slices"
	"testing"

	"proctor/api"
	"proctor/machine"
	"proctor/record"
	"proctor/rows"
	"proctor/rules"
	"proctor/sweep"
)

// dice is a source of numbers that is the same in every run.
type dice uint64

func (d *dice) below(n int) int {
	*d = *d*6364136223846793005 + 1442695040888963407
	return int(uint64(*d) >> 33 % uint64(n))
}

// near is mostly from least to most, and seldom one beside.
func (d *dice) near(least, most int) int {
	if d.below(40) == 0 {
		return []int{least - 1, most + 1}[d.below(2)]
	}
	return least + d.below(most-least+1)
}

// txn is mostly right; few times make many of them meet.
func (d *dice) txn() api.Txn {
	base := []int{0, 1000, api.MaxTime - 10}[d.below(3)]
	time := func() int { return d.near(base, base+10) }
	t := api.Txn{Session: d.below(4), Seq: d.below(5), Start: time(), End: time(), Invoke: time(), Return: time(), Status: d.below(2)}
	switch d.below(30) {
	case 0:
		t.Session = d.near(0, api.MaxId)
	case 1:
		t.Status = 2
	case 2:
		t.Ops = slices.Repeat([]api.Op{{Kind: api.OpRead, Key: "a"}}, 15+d.below(3))
	case 3:
		t.Ops = []api.Op{{Kind: api.OpRead, Key: "a", Found: d.below(2) == 0, Value: "x"}}
	}
	return t
}

// gap is how far a comes behind b: a rule is broken where it is above its leave.
type gap struct{ kind, time, a, b, leave int }

func modelShape(index int, t api.Txn, eps int) ([]api.Viol, api.Errno) {
	if index < 0 || index > 4095 {
		return nil, 170
	}
	if eps < 0 || eps > 1<<40 {
		return nil, 171
	}
	if _, e := record.Encode(t); e != api.OK {
		return nil, e
	}
	var list []api.Viol
	for _, g := range []gap{
		{1, t.Start, t.Start, t.End, -1},
		{2, t.Start, t.Invoke, t.Return, 0},
		{3, t.Start, t.Invoke, t.Start, eps},
		{4, t.End, t.End, t.Return, eps},
	} {
		if g.a-g.b > g.leave {
			list = append(list, api.Viol{Kind: g.kind, Time: g.time, Txn: index, Op: -1, Witness: -1, From: g.a, To: g.b})
		}
	}
	return list, api.OK
}

// P17.1 and P17.2: Shape answers as the model, and so do the rows.
func TestModelShape(t *testing.T) {
	d := dice(17)
	errors, kinds, sounds := map[api.Errno]int{}, map[int]int{}, map[int]int{}
	for range 40000 {
		index, eps, txn := d.near(0, api.MaxTxns-1), d.near(0, 4), d.txn()
		want, e := modelShape(index, txn, eps)
		list, f := rules.Shape(index, txn, eps)
		if f != e || !slices.Equal(list, want) {
			t.Fatalf("Shape(%d, %+v, %d) = %+v, %d; want %+v, %d", index, txn, eps, list, f, want, e)
		}
		errors[e]++
		for _, v := range list {
			kinds[v.Kind]++
		}
		if e == api.OK {
			sounds[modelRows(t, index, txn)]++
		} else if e != api.ErrEps {
			givesNone(t, index, txn, e)
		}
	}
	for _, e := range []api.Errno{api.OK, api.ErrIndex, api.ErrEps, api.ErrField, api.ErrOps, api.ErrOp} {
		if errors[e] < 100 {
			t.Errorf("error %d was seen %d times only", e, errors[e])
		}
	}
	for kind := api.KindInverted; kind <= api.KindLate; kind++ {
		if kinds[kind] < 1000 {
			t.Errorf("kind %d was seen %d times only", kind, kinds[kind])
		}
	}
	if sounds[1] < 1000 || sounds[3] < 1000 || len(sounds) != 2 {
		t.Errorf("how many rows: %v", sounds)
	}
}

// modelRows looks at the rows of a right transaction, and tells how many they are.
func modelRows(t *testing.T, index int, txn api.Txn) int {
	t.Helper()
	body, _ := record.Encode(txn)
	want := []rows.Row{
		{Kind: 3, Time: txn.Session, Seq: txn.Seq, Index: index, From: txn.Start, To: txn.End},
		{Kind: 2, Time: txn.Start, Index: index},
		{Kind: 1, Time: txn.End, Index: index, Body: string(body)},
	}
	if txn.End <= txn.Start {
		want = want[:1]
	}
	gives(t, index, txn, want...)
	return len(want)
}

// walked has all rows that were taken, and goes through them for each answer.
type walked []rows.Row

func (m *walked) take(r rows.Row) ([]api.Viol, api.Errno) {
	if r.Kind != 3 || rows.Size(r) == 0 {
		return nil, api.ErrRow
	}
	for _, x := range *m {
		if slices.Compare([]int{x.Time, x.Seq, x.Index}, []int{r.Time, r.Seq, r.Index}) >= 0 {
			return nil, api.ErrTurn
		}
	}
	var list []api.Viol
	for _, x := range *m {
		if x.Time != r.Time {
			continue
		}
		list = nil
		v := api.Viol{Kind: 10, Time: r.From, Txn: r.Index, Op: -1, Witness: x.Index, From: x.To, To: r.From}
		if x.Seq == r.Seq {
			v.Kind = 9
		}
		if v.Kind == 9 || v.To < v.From {
			list = []api.Viol{v}
		}
	}
	*m = append(*m, r)
	return list, api.OK
}

func (d *dice) sessionRow() rows.Row {
	from := d.below(6)
	r := row(d.below(3), d.below(4), d.below(6), from, from+d.below(4))
	switch d.below(40) {
	case 0:
		r.Kind = d.below(6) - 1
	case 1:
		r.Index = -1
	case 2:
		r.To = api.MaxTime + 1
	case 3:
		r.Body = "?"
	case 4:
		r.To = 0
	}
	return r
}

// P17.3: a walk answers as the model, at rows that are mostly in their order.
func TestModelWalk(t *testing.T) {
	d := dice(173)
	errors, kinds := map[api.Errno]int{}, map[int]int{}
	for range 3000 {
		var list []rows.Row
		for range d.below(15) {
			list = append(list, d.sessionRow())
		}
		slices.SortStableFunc(list, func(a, b rows.Row) int { return rows.Compare(rows.BySession, a, b) })
		w, m := rules.NewWalk(), &walked{}
		for _, r := range list {
			if d.below(8) == 0 {
				r = d.sessionRow()
			}
			want, e := m.take(r)
			told, f := w.Take(r)
			if f != e || !slices.Equal(told, want) {
				t.Fatalf("behind %+v: Take(%+v) = %+v, %d; want %+v, %d", *m, r, told, f, want, e)
			}
			errors[e]++
			for _, v := range told {
				kinds[v.Kind]++
			}
		}
	}
	if errors[api.OK] < 1000 || errors[api.ErrRow] < 300 || errors[api.ErrTurn] < 300 {
		t.Errorf("errors: %v", errors)
	}
	if kinds[api.KindRepeat] < 300 || kinds[api.KindSession] < 300 || len(kinds) != 2 {
		t.Errorf("kinds: %v", kinds)
	}
}

// emitted gives a log of a machine, with its records in some order.
func emitted(t *testing.T, d *dice, flaw int) []api.Txn {
	t.Helper()
	var steps []machine.Step
	for range 300 {
		kinds := []int{1, 1, 1, 2, 2, 2, 3, 3, 4, 5, 6}
		steps = append(steps, machine.Step{Kind: kinds[d.below(len(kinds))], Session: d.below(5), Gap: d.below(3), Key: "a", Value: "x"})
	}
	log, e := machine.Emit(5, flaw, steps)
	if e != api.OK || len(log) == 0 {
		t.Fatalf("Emit = %v, %d", log, e)
	}
	for i := range log {
		j := d.below(i + 1)
		log[i], log[j] = log[j], log[i]
	}
	return log
}

// What any machine emits keeps these rules, without a skew; and the rows are
// such that a sweep and a walk take them.
func TestMachines(t *testing.T) {
	for flaw := machine.FlawNone; flaw <= machine.FlawDirty; flaw++ {
		d := dice(flaw)
		for range 20 {
			var sessions, events []rows.Row
			for place, txn := range emitted(t, &d, flaw) {
				shaped(t, place, txn, 0)
				list, e := rules.Rows(place, txn)
				if e != api.OK || len(list) != 3 {
					t.Fatalf("Rows(%d, %+v) = %+v, %d", place, txn, list, e)
				}
				sessions, events = append(sessions, list[0]), append(events, list[1:]...)
			}
			slices.SortFunc(sessions, func(a, b rows.Row) int { return rows.Compare(rows.BySession, a, b) })
			slices.SortFunc(events, func(a, b rows.Row) int { return rows.Compare(rows.ByTime, a, b) })
			w := rules.NewWalk()
			for _, r := range sessions {
				takes(t, w, r)
			}
			swept(t, events, flaw)
		}
	}
}

func swept(t *testing.T, events []rows.Row, flaw int) {
	t.Helper()
	s, _ := sweep.New(api.MaxState)
	for _, r := range events {
		if list, e := s.Take(r); e != api.OK || flaw == machine.FlawNone && len(list) != 0 {
			t.Fatalf("flaw %d: Take(%+v) = %+v, %d", flaw, r, list, e)
		}
	}
	if e := s.Finish(); e != api.OK {
		t.Errorf("Finish = %d", e)
	}
}
