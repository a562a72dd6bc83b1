package checker_test

import (
	"math"
	"slices"
	"strings"
	"testing"

	"proctor/adya"
	"proctor/api"
	"proctor/checker"
	"proctor/config"
	"proctor/device"
	"proctor/extsort"
	"proctor/halt"
	"proctor/logfile"
	"proctor/machine"
	"proctor/notation"
	"proctor/report"
)

// text reads a log out of its lines.
func text(t *testing.T, lines ...string) []api.Txn {
	t.Helper()
	var all string
	for _, line := range lines {
		all += line + "\n"
	}
	list, place, e := notation.ParseLog(all)
	if e != api.OK {
		t.Fatalf("line %d of %q: %d", place, lines, e)
	}
	return list
}

func bytesOf(t *testing.T, list []api.Txn) []byte {
	t.Helper()
	log, place, e := logfile.Encode(list)
	if e != api.OK {
		t.Fatalf("Encode: %d at %d", e, place)
	}
	return log
}

func dev(t *testing.T, g device.Geometry, input []byte, faults ...device.Fault) *device.Dev {
	t.Helper()
	// What lies in the scratch region is not to be seen in an outcome.
	old := []byte(strings.Repeat("\x02\x01old bytes", g.Block*g.Scratch/11))
	d, e := device.New(g, input, old, faults)
	if e != api.OK {
		t.Fatalf("device.New(%v): %d", g, e)
	}
	return d
}

func stop(t *testing.T, beats int) *halt.Stop {
	t.Helper()
	s, e := halt.New(beats)
	if e != api.OK {
		t.Fatalf("halt.New(%d): %d", beats, e)
	}
	return s
}

func same(a, b api.Outcome) bool {
	return a.Kind == b.Kind && a.Code == b.Code && a.Offset == b.Offset && a.Txns == b.Txns && a.Total == b.Total && slices.Equal(a.List, b.List)
}

// is holds an outcome against the one that is wanted, and against layer 22.
func is(t *testing.T, what string, got, want api.Outcome) {
	t.Helper()
	if !same(got, want) {
		t.Errorf("%s: %+v, want %+v", what, got, want)
	}
	if !report.Valid(got) {
		t.Errorf("%s: %+v is no right outcome", what, got)
	}
}

// small is a device on which a check of a few transactions has room enough.
var small = device.Geometry{Block: 16, Scratch: 400}

func accept(txns int) api.Outcome { return api.Outcome{Kind: api.OutAccept, Txns: txns} }

func reject(txns int, list ...api.Viol) api.Outcome {
	return api.Outcome{Kind: api.OutReject, Txns: txns, Total: len(list), List: list}
}

func failed(code api.Errno) api.Outcome { return api.Outcome{Kind: api.OutIO, Code: code} }

// pair is the third example of the whole, and with commit the fourth.
func pair(t *testing.T, ended string) []api.Txn {
	t.Helper()
	return text(t, "s0 q0 t1-4 c0-4 commit w(a)=x", "s1 q0 t3-7 c2-7 "+ended+" r(a)=- w(a)=y")
}

var conflict = api.Viol{Kind: api.KindConflict, Time: 7, Txn: 1, Op: 1, Witness: 0, Key: "a", From: 3, To: 4}

// The examples of the chapter.
func TestExamples(t *testing.T) {
	fan := config.Usual()
	fan.Fan = 1
	for _, x := range []struct {
		c     api.Config
		input []byte
		want  api.Outcome
	}{
		{config.Usual(), []byte{80, 82, 79, 1, 0, 0}, accept(0)},
		{config.Usual(), []byte{80, 82, 79, 2}, api.Outcome{Kind: api.OutMalformed, Code: 70, Offset: 3}},
		{config.Usual(), nil, api.Outcome{Kind: api.OutMalformed, Code: 51}},
		{fan, nil, api.Outcome{Kind: api.OutConfig, Code: 110}},
		{config.Usual(), bytesOf(t, pair(t, "abort")), accept(2)},
		{config.Usual(), bytesOf(t, pair(t, "commit")), reject(2, conflict)},
	} {
		is(t, "Run", checker.Run(x.c, dev(t, small, x.input)), x.want)
	}
	steps := []machine.Step{
		{Kind: machine.StepBegin}, {Kind: machine.StepWrite, Key: "a", Value: "x"},
		{Kind: machine.StepBegin, Session: 1}, {Kind: machine.StepCommit},
		{Kind: machine.StepRead, Session: 1, Key: "a"}, {Kind: machine.StepWrite, Session: 1, Key: "a", Value: "y"},
		{Kind: machine.StepCommit, Session: 1},
	}
	list, e := machine.Emit(2, machine.FlawNone, steps)
	if e != api.OK || checker.Beats(list) != 8 {
		t.Errorf("%v, %d: %d beats", list, e, checker.Beats(list))
	}
	o, u := checker.Trace(config.Usual(), dev(t, small, bytesOf(t, list)))
	is(t, "Trace", o, accept(2))
	if u.Events.Rows != 4 || u.Sessions.Rows != 2 {
		t.Errorf("%+v", u)
	}
	// The tenth of the whole: a machine that loses updates.
	list, _ = machine.Emit(2, machine.FlawLost, steps)
	is(t, "Run", checker.Run(config.Usual(), dev(t, small, bytesOf(t, list))), reject(2, conflict))
}

// The examples of the whole that are logs: from 2 to 8.
func TestExamplesOfTheWhole(t *testing.T) {
	run := func(c api.Config, list []api.Txn, want api.Outcome) {
		t.Helper()
		is(t, "Run", checker.Run(c, dev(t, small, bytesOf(t, list))), want)
		o, _, e := checker.Judge(c, list)
		if is(t, "Judge", o, want); e != api.OK {
			t.Errorf("Judge: %d", e)
		}
	}
	u := config.Usual()
	is(t, "2", checker.Run(u, dev(t, small, []byte{80, 82, 79, 1, 0, 1})), api.Outcome{Kind: api.OutMalformed, Code: api.ErrTotal, Offset: 5})
	run(u, pair(t, "abort"), accept(2))
	run(u, pair(t, "commit"), reject(2, conflict))
	run(u, text(t, "s0 q0 t1-4 c0-4 commit w(a)=x", "s1 q0 t5-7 c5-7 commit r(a)=-"), reject(2,
		api.Viol{Kind: api.KindSnapshot, Time: 7, Txn: 1, Op: 0, Witness: 0, Key: "a", Want: true, Expected: "x", From: 4, To: 5}))
	run(u, text(t, "s0 q0 t1-5 c1-5 commit r(a)=- w(b)=x", "s1 q0 t2-6 c2-6 commit r(b)=- w(a)=y"), accept(2))
	inverted := api.Viol{Kind: api.KindInverted, Time: 5, Op: -1, Witness: -1, From: 5, To: 5}
	early := api.Viol{Kind: api.KindEarly, Time: 5, Op: -1, Witness: -1, From: 9, To: 5}
	run(u, text(t, "s0 q0 t5-5 c9-9 commit"), reject(1, inverted, early))
	u.Eps = 4
	run(u, text(t, "s0 q0 t5-5 c9-9 commit"), reject(1, inverted))
	u.Eps = 3
	run(u, text(t, "s0 q0 t5-5 c9-9 commit"), reject(1, inverted, early))
	run(config.Usual(), text(t, "s0 q0 t1-9 c1-9 commit", "s0 q1 t5-8 c5-8 commit"), reject(2,
		api.Viol{Kind: api.KindSession, Time: 5, Txn: 1, Op: -1, Witness: 0, From: 9, To: 5}))
}

// The ninth example of the whole: the other ways in which a check ends.
func TestEnds(t *testing.T) {
	input := bytesOf(t, pair(t, "abort"))
	usual := config.Usual()
	is(t, "write", checker.Run(usual, dev(t, small, input, device.Fault{Kind: device.FaultWrite, Nth: 1})), failed(38))
	is(t, "crash", checker.Run(usual, dev(t, small, input, device.Fault{Kind: device.FaultCrash, Nth: 2})), api.Outcome{Kind: api.OutCrash})
	is(t, "space", checker.Run(usual, dev(t, device.Geometry{Block: 16, Scratch: 1}, input)), api.Outcome{Kind: api.OutNoSpace})
	is(t, "no blocks", checker.Run(usual, dev(t, device.Geometry{Block: 16}, input)), api.Outcome{Kind: api.OutNoSpace})
	state := usual
	for limit, want := range []api.Outcome{{Kind: api.OutState}, {Kind: api.OutState}, accept(2), accept(2)} {
		state.State = limit
		is(t, "state", checker.Run(state, dev(t, small, input)), want)
	}
	is(t, "7 beats", checker.RunUntil(usual, dev(t, small, input), stop(t, 7)), api.Outcome{Kind: api.OutCancelled})
	is(t, "8 beats", checker.RunUntil(usual, dev(t, small, input), stop(t, 8)), accept(2))
	is(t, "no stop", checker.RunUntil(usual, dev(t, small, input), nil), accept(2))
}

// P24.1: of a config that isn't right the first error is told, and nothing else
// is done, whatever the input, the device and the stop are.
func TestConfig(t *testing.T) {
	usual := config.Usual()
	for _, x := range []struct {
		c    api.Config
		want api.Errno
	}{
		{api.Config{}, api.ErrBudget},
		{api.Config{Budget: api.MinBudget - 1, Fan: 2}, api.ErrBudget},
		{api.Config{Budget: api.MaxBudget + 1, Fan: 2}, api.ErrBudget},
		{api.Config{Budget: math.MinInt, Fan: math.MaxInt}, api.ErrBudget},
		{api.Config{Budget: api.MinBudget}, api.ErrFan},
		{api.Config{Budget: api.MinBudget, Fan: api.MaxFan + 1, State: -1}, api.ErrFan},
		{api.Config{Budget: api.MaxBudget, Fan: 2, State: -1}, api.ErrLimit},
		{api.Config{Budget: api.MaxBudget, Fan: 2, State: api.MaxState + 1, Eps: -1}, api.ErrLimit},
		{api.Config{Budget: api.MaxBudget, Fan: 2, Eps: -1}, api.ErrEps},
		{api.Config{Budget: api.MaxBudget, Fan: 2, Eps: api.MaxTime + 1, Limit: -1}, api.ErrEps},
		{api.Config{Budget: api.MaxBudget, Fan: 2, Limit: -1}, api.ErrMost},
		{api.Config{Budget: api.MaxBudget, Fan: 2, Limit: api.MaxList + 1}, api.ErrMost},
	} {
		for _, input := range [][]byte{nil, {80, 82}, bytesOf(t, pair(t, "commit"))} {
			want := api.Outcome{Kind: api.OutConfig, Code: x.want}
			d := dev(t, small, input, device.Fault{Kind: device.FaultInput, Nth: 1}, device.Fault{Kind: device.FaultCrash, Nth: 1})
			s := stop(t, 5)
			is(t, "RunUntil", checker.RunUntil(x.c, d, s), want)
			is(t, "Run", checker.Run(x.c, d), want)
			o, u := checker.Trace(x.c, d)
			if is(t, "Trace", o, want); u != (checker.Usage{}) {
				t.Errorf("%+v", u)
			}
			if d.Counts() != (device.Counts{}) || s.Left() != 5 || s.Stopped() {
				t.Errorf("%+v: %+v, %d beats left", x.c, d.Counts(), s.Left())
			}
		}
		o, place, e := checker.Judge(x.c, pair(t, "abort"))
		is(t, "Judge", o, api.Outcome{Kind: api.OutConfig, Code: x.want})
		if place != 0 || e != api.OK {
			t.Errorf("Judge: %d, %d", place, e)
		}
	}
	// The bounds themselves are right.
	for _, c := range []api.Config{
		{Budget: api.MinBudget, Fan: 2},
		{Budget: api.MaxBudget, Fan: api.MaxFan, State: api.MaxState, Eps: api.MaxTime, Limit: api.MaxList},
	} {
		is(t, "bounds", checker.Run(c, dev(t, small, []byte{80, 82, 79, 1, 0, 0})), accept(0))
	}
	usual.Budget = api.MinBudget + 1 // it is halved, and rounded down
	is(t, "odd", checker.Run(usual, dev(t, small, bytesOf(t, pair(t, "abort")))), accept(2))
}

// Faults of a log are told with their place, wherever blocks are cut; beats are
// asked for the transactions ahead of them alone, and what is held is not written.
func TestMalformed(t *testing.T) {
	whole := bytesOf(t, pair(t, "abort"))
	end := len(whole)
	for _, x := range []struct {
		input  []byte
		code   api.Errno
		offset int
		beats  int
	}{
		{[]byte{80, 82}, api.ErrEnd, 2, 0},
		{[]byte{80, 83, 79, 1}, api.ErrMagic, 1, 0},
		{[]byte{80, 82, 79, 1}, api.ErrEnd, 4, 0},
		{[]byte{80, 82, 79, 1, 129, 4}, api.ErrRange, 4, 0},
		{[]byte{80, 82, 79, 1, 128, 0}, api.ErrLong, 4, 0},
		{append(slices.Clone(whole), 0), api.ErrTail, end, 2},
		{append(slices.Clone(whole), whole...), api.ErrTail, end, 2},
		{whole[:end-1], api.ErrEnd, end - 1, 2},
		{whole[:end-2], api.ErrEnd, end - 2, 2},
		{whole[:end-3], api.ErrEnd, 18, 1},
		{append(whole[:end-1:end-1], 3), api.ErrTotal, end - 1, 2},
		{slices.Concat(whole[:25], []byte{2}, whole[26:]), api.ErrRange, 25, 1}, // the Status
		{slices.Concat(whole[:26], []byte{17}, whole[27:]), api.ErrRange, 26, 1},
		{slices.Concat(whole[:26], []byte{3}, whole[27:]), api.ErrEnd, 35, 1},
		{slices.Concat(whole[:26], []byte{1}, whole[27:]), api.ErrTail, 30, 1},
		{slices.Concat(whole[:13], []byte{9}, whole[14:]), api.ErrTag, 13, 0},
	} {
		for _, block := range []int{16, 17, 20, 1024} {
			d := dev(t, device.Geometry{Block: block, Scratch: 9}, x.input)
			want := api.Outcome{Kind: api.OutMalformed, Code: x.code, Offset: x.offset}
			s := stop(t, 9)
			is(t, "RunUntil", checker.RunUntil(config.Usual(), d, s), want)
			if s.Left() != 9-x.beats {
				t.Errorf("%v: %d beats left of 9, want %d", x.input, s.Left(), 9-x.beats)
			}
			if c := d.Counts(); c.Writes != 0 || c.Scratch != 0 {
				t.Errorf("%v: %+v", x.input, c)
			}
			o, u := checker.Trace(config.Usual(), d)
			if is(t, "Trace", o, want); u != (checker.Usage{}) {
				t.Errorf("%v: %+v", x.input, u)
			}
		}
	}
}

// P24.1: all violations count, the first Limit of them are shown.
func TestLimit(t *testing.T) {
	var list []api.Txn
	for i := range 60 {
		// Each has five: inverted, client, early, late, and a Seq for the second time.
		list = append(list, api.Txn{Start: 200 - i, End: 200 - i, Invoke: 400, Return: 0})
	}
	all := model{log: list}.violations()
	if len(all) != 299 {
		t.Fatalf("%d violations", len(all))
	}
	for _, limit := range []int{0, 1, 2, 100, 298, 299, 300, api.MaxList} {
		c := config.Usual()
		c.Limit = limit
		want := api.Outcome{Kind: api.OutReject, Txns: 60, Total: 299, List: all[:min(limit, 299)]}
		is(t, "Run", checker.Run(c, dev(t, device.Geometry{Block: 512, Scratch: 40}, bytesOf(t, list))), want)
		o, _, _ := checker.Judge(c, list)
		is(t, "Judge", o, want)
	}
}

// One violation of each kind, each from its own step, alone and all together.
func TestKinds(t *testing.T) {
	logs := [][]string{
		{"s0 q0 t5-5 c5-5 abort"},
		{"s1 q0 t10-20 c21-20 abort"},
		{"s2 q0 t10-20 c11-20 abort"},
		{"s3 q0 t10-20 c10-19 abort"},
		{"s4 q0 t10-30 c10-30 commit", "s5 q0 t11-30 c11-30 commit"},
		{"s6 q0 t10-31 c10-31 abort w(k)=x r(k)=-"},
		{"s7 q0 t10-32 c10-32 abort r(s)=x"},
		{"s8 q0 t10-33 c10-33 commit d(c)", "s9 q0 t10-34 c10-34 commit d(c)"},
		{"s10 q0 t1-2 c1-2 abort", "s10 q0 t3-4 c3-4 abort"},
		{"s11 q0 t1-3 c1-3 abort", "s11 q1 t2-4 c2-4 abort"},
	}
	var all []string
	for i, lines := range logs {
		all = append(all, lines...)
		list := text(t, lines...)
		o := checker.Run(config.Usual(), dev(t, small, bytesOf(t, list)))
		want, _ := outcome(config.Usual(), bytesOf(t, list))
		is(t, lines[0], o, want)
		if !slices.ContainsFunc(o.List, func(v api.Viol) bool { return v.Kind == i+1 }) {
			t.Errorf("%q: %+v has no %d", lines, o, i+1)
		}
	}
	o := checker.Run(config.Usual(), dev(t, small, bytesOf(t, text(t, all...))))
	want, _ := outcome(config.Usual(), bytesOf(t, text(t, all...)))
	if is(t, "all", o, want); o.Total < 10 {
		t.Errorf("%+v", o)
	}
}

// P24.4: what Encode refuses is answered as Encode does, ahead of the config.
func TestJudgeRefuses(t *testing.T) {
	right := api.Txn{Start: 1, End: 2, Return: 9}
	wrong := []struct {
		t api.Txn
		e api.Errno
	}{
		{api.Txn{Status: 2}, api.ErrField},
		{api.Txn{Start: -1, Ops: make([]api.Op, 17)}, api.ErrField},
		{api.Txn{Return: api.MaxTime + 1}, api.ErrField},
		{api.Txn{Ops: make([]api.Op, 17)}, api.ErrOps},
		{api.Txn{Ops: make([]api.Op, 1)}, api.ErrOp},
	}
	for _, c := range []api.Config{{}, config.Usual()} {
		for place := range 4 {
			for _, w := range wrong {
				list := []api.Txn{right, right, right, right, {Status: -1}}
				list[place] = w.t
				if o, at, e := checker.Judge(c, list); !same(o, api.Outcome{}) || at != place || e != w.e {
					t.Errorf("Judge with %+v at %d: %+v, %d, %d", w.t, place, o, at, e)
				}
			}
		}
		list := make([]api.Txn, api.MaxTxns+1)
		list[2].Status = 2
		if o, at, e := checker.Judge(c, list); !same(o, api.Outcome{}) || at != 0 || e != api.ErrTxns {
			t.Errorf("Judge of %d: %+v, %d, %d", len(list), o, at, e)
		}
	}
	o, place, e := checker.Judge(config.Usual(), nil)
	if is(t, "none", o, accept(0)); place != 0 || e != api.OK {
		t.Errorf("Judge: %d, %d", place, e)
	}
}

// greatest gives the transactions with the longest rows that there are. They
// read all keys ahead of writing anything, and share none.
func greatest(n int) []api.Txn {
	list := make([]api.Txn, n)
	for i := range list {
		list[i] = api.Txn{
			Session: api.MaxId - i, Seq: api.MaxId - i, Status: api.Committed,
			Start: api.MaxTime - 2*i - 2, End: api.MaxTime - 2*i - 1, Invoke: api.MaxTime - 2*i - 2, Return: api.MaxTime - 2*i - 1,
		}
		for j := range api.MaxOps {
			key := string(rune('A'+i/64)) + string(rune('A'+i%64)) + "-----" + string(rune('a'+j))
			list[i].Ops = append(list[i].Ops, api.Op{Kind: api.OpWrite, Key: key[len(key)-8:], Found: true, Value: strings.Repeat("v", api.MaxValue)})
		}
	}
	return list
}

// P24.4: there is room enough for every log with every config, also where no
// device has it: the greatest log in the smallest runs needs more blocks.
func TestJudgeRoom(t *testing.T) {
	least := config.Usual()
	least.Budget, least.Fan = api.MinBudget, 2
	for _, n := range []int{1, 2, 3, 4, 50, 2000, api.MaxTxns - 1, api.MaxTxns} {
		for _, c := range []api.Config{least, config.Usual(), {Budget: api.MaxBudget, Fan: api.MaxFan, State: api.MaxState}} {
			o, place, e := checker.Judge(c, greatest(n))
			if is(t, "greatest", o, accept(n)); place != 0 || e != api.OK {
				t.Errorf("Judge of %d: %d, %d", n, place, e)
			}
		}
	}
	// All of them break a rule: Judge shows what it can, and counts all.
	list := greatest(api.MaxTxns)
	for i := range list {
		list[i].Ops[0] = api.Op{Kind: api.OpRead, Key: "12345678", Found: true, Value: "x"}
	}
	o, _, _ := checker.Judge(least, list)
	if o.Kind != api.OutReject || o.Txns != api.MaxTxns || o.Total != api.MaxTxns || len(o.List) != 100 {
		t.Errorf("%d %d %d %d", o.Kind, o.Txns, o.Total, len(o.List))
	}
	// On the greatest device the same log has no room in so small runs.
	d := dev(t, device.Geometry{Block: api.MaxBlock, Scratch: api.MaxScratch}, bytesOf(t, list))
	is(t, "Run", checker.Run(least, d), api.Outcome{Kind: api.OutNoSpace})
}

// P24.5: two beats for each transaction, two more for each sound one, whatever
// else may be wrong with the list.
func TestBeats(t *testing.T) {
	for _, x := range []struct {
		list []api.Txn
		want int
	}{
		{nil, 0},
		{[]api.Txn{}, 0},
		{[]api.Txn{{}}, 2},
		{[]api.Txn{{Start: 1}}, 2},
		{[]api.Txn{{End: 1}}, 4},
		{[]api.Txn{{Start: api.MaxTime - 1, End: api.MaxTime}}, 4},
		{[]api.Txn{{Start: math.MinInt, End: math.MaxInt}, {Start: math.MaxInt, End: math.MinInt}}, 6},
		{[]api.Txn{{End: 1, Status: 7}, {End: 1, Ops: make([]api.Op, 99)}}, 8},
		{make([]api.Txn, api.MaxTxns+1), 2 * (api.MaxTxns + 1)},
		{greatest(7), 28},
	} {
		if n := checker.Beats(x.list); n != x.want {
			t.Errorf("Beats of %d: %d, want %d", len(x.list), n, x.want)
		}
	}
}

// A stop ends a check for each of its causes; one whose beats aren't asked for doesn't.
func TestStops(t *testing.T) {
	input := bytesOf(t, pair(t, "abort"))
	empty := []byte{80, 82, 79, 1, 0, 0}
	cancelled := api.Outcome{Kind: api.OutCancelled}
	run := func(in []byte, s *halt.Stop) api.Outcome {
		return checker.RunUntil(config.Usual(), dev(t, small, in), s)
	}

	s := stop(t, 100)
	s.Cancel()
	is(t, "by hand", run(input, s), cancelled)
	if s.Left() != 100 {
		t.Errorf("%d left", s.Left())
	}
	is(t, "no beats asked", run(empty, s), accept(0))
	is(t, "no beats left", run(empty, stop(t, 0)), accept(0))
	is(t, "malformed ahead", run(nil, s), api.Outcome{Kind: api.OutMalformed, Code: api.ErrEnd})

	parent := stop(t, 8)
	child, _ := parent.Child(100)
	is(t, "child", run(input, child), accept(2))
	if parent.Left() != 0 || child.Left() != 92 || parent.Stopped() {
		t.Errorf("%d, %d left", parent.Left(), child.Left())
	}
	is(t, "parent's beats", run(input, child), cancelled)
	if parent.Cause() != halt.CauseBeats || child.Cause() != halt.CauseParent {
		t.Errorf("causes %d, %d", parent.Cause(), child.Cause())
	}
	// One stop for several checks.
	s = stop(t, 20)
	is(t, "first", run(input, s), accept(2))
	is(t, "second", run(input, s), accept(2))
	is(t, "third", run(input, s), cancelled)
	if s.Left() != 0 || s.Cause() != halt.CauseBeats {
		t.Errorf("%d left, cause %d", s.Left(), s.Cause())
	}
}

// What is handed in stays as it was, and no two answers share memory.
func TestApart(t *testing.T) {
	list := pair(t, "commit")
	input := bytesOf(t, list)
	d := dev(t, small, input)
	first := checker.Run(config.Usual(), d)
	second := checker.Run(config.Usual(), d)
	is(t, "first", first, reject(2, conflict))
	first.List[0] = api.Viol{}
	is(t, "second", second, reject(2, conflict))
	o, _, _ := checker.Judge(config.Usual(), list)
	o.List[0] = api.Viol{}
	o, _, _ = checker.Judge(config.Usual(), list)
	is(t, "Judge", o, reject(2, conflict))
	if !slices.Equal(d.Input(), input) || !slices.Equal(bytesOf(t, list), input) {
		t.Errorf("%v, %v; want %v", d.Input(), list, input)
	}
}

// A device that is down already is a crash, if anything is asked of it.
func TestDown(t *testing.T) {
	for _, x := range []struct {
		input []byte
		want  api.Outcome
	}{
		{bytesOf(t, pair(t, "abort")), api.Outcome{Kind: api.OutCrash}},
		{nil, api.Outcome{Kind: api.OutMalformed, Code: api.ErrEnd}},
	} {
		d := dev(t, small, x.input, device.Fault{Kind: device.FaultCrash, Nth: 1})
		if e := d.WriteScratch(0, make([]byte, 16)); e != api.ErrDown {
			t.Fatal(e)
		}
		is(t, "down", checker.Run(config.Usual(), d), x.want)
	}
}

// busy is a log whose rows need several runs and passes in small runs.
func busy() ([]api.Txn, api.Config) {
	d := dice(5)
	var list []api.Txn
	for i := range 90 {
		x := d.txn(300)
		x.Session, x.Seq = i%7, i/7
		for range 3 {
			x.Ops = append(x.Ops, d.op())
		}
		list = append(list, x)
	}
	return list, api.Config{Budget: api.MinBudget, Fan: 2, State: api.MaxState, Eps: 3, Limit: 50}
}

// Each read and write that can fail, one by one: the outcome names the fault,
// and nothing is written or read from the input any more.
func TestEachFault(t *testing.T) {
	list, c := busy()
	input := bytesOf(t, list)
	g := device.Geometry{Block: 64, Scratch: 4000}
	want, _ := outcome(c, input)
	d := dev(t, g, input)
	is(t, "without faults", checker.Run(c, d), want)
	counts := d.Counts()
	if counts.Writes < 200 || counts.Scratch < 200 || want.Total == 0 {
		t.Fatalf("%+v, %+v", counts, want)
	}
	run := func(f device.Fault) (api.Outcome, device.Counts) {
		d := dev(t, g, input, f)
		return checker.Run(c, d), d.Counts()
	}
	for n := 1; n <= counts.Writes; n++ {
		o, got := run(device.Fault{Kind: device.FaultWrite, Nth: n})
		if is(t, "write", o, failed(api.ErrWrite)); got.Writes != n || got.Struck != 1 {
			t.Errorf("write %d: %+v", n, got)
		}
		o, got = run(device.Fault{Kind: device.FaultCrash, Nth: n, Keep: n % 65})
		if is(t, "crash", o, api.Outcome{Kind: api.OutCrash}); got.Writes != n || got.Struck != 1 {
			t.Errorf("crash %d: %+v", n, got)
		}
	}
	for b := range d.Blocks() {
		o, got := run(device.Fault{Kind: device.FaultInput, Block: b, Nth: 1})
		if is(t, "input", o, failed(api.ErrRead)); got.Input != b+1 || got.Struck != 1 {
			t.Errorf("input %d: %+v", b, got)
		}
	}
	struck := 0
	for b := range g.Scratch {
		nth := 1
		for {
			o, got := run(device.Fault{Kind: device.FaultScratch, Block: b, Nth: nth})
			if got.Struck == 0 {
				is(t, "unread", o, want)
				break
			}
			is(t, "scratch", o, failed(api.ErrRead))
			struck++
			nth++
		}
		if nth == 1 { // blocks are given from the lowest on
			break
		}
	}
	if struck != counts.Scratch {
		t.Errorf("%d reads struck, of %d", struck, counts.Scratch)
	}
	for _, f := range []device.Fault{
		{Kind: device.FaultWrite, Nth: counts.Writes + 1},
		{Kind: device.FaultCrash, Nth: counts.Writes + 1},
		{Kind: device.FaultInput, Block: 0, Nth: 2},
		{Kind: device.FaultInput, Block: d.Blocks(), Nth: 1},
	} {
		o, got := run(f)
		if is(t, "no strike", o, want); got != counts {
			t.Errorf("%+v: %+v, want %+v", f, got, counts)
		}
	}
}

// P24.2: with 2V + Fan + 2 blocks there is room; with fewer the outcome is the
// same or OutNoSpace, and with too few it is that.
func TestRoom(t *testing.T) {
	list, c := busy()
	input := bytesOf(t, list)
	for _, fan := range []int{2, 3, 8, api.MaxFan} {
		for _, block := range []int{16, 64, 1024} {
			c.Fan = fan
			want, _ := outcome(c, input)
			enough := room(c, usage(c, list, block))
			for scratch := 0; scratch <= enough; scratch += 1 + enough/97 {
				o := checker.Run(c, dev(t, device.Geometry{Block: block, Scratch: scratch}, input))
				if o.Kind != api.OutNoSpace {
					is(t, "less room", o, want)
				} else if is(t, "less room", o, api.Outcome{Kind: api.OutNoSpace}); scratch == enough {
					t.Errorf("fan %d, block %d: no space in %d", fan, block, scratch)
				}
				if scratch == 0 && o.Kind != api.OutNoSpace {
					t.Errorf("%+v without a block", o)
				}
			}
			is(t, "room", checker.Run(c, dev(t, device.Geometry{Block: block, Scratch: enough}, input)), want)
		}
	}
}

// P24.3: what is used, of the example of ../shared/tests with other blocks too.
func TestUsage(t *testing.T) {
	events, sessions := extsort.Stats{Rows: 4, Bytes: 57, Runs: 1, Peak: 57}, extsort.Stats{Rows: 2, Bytes: 14, Runs: 1, Peak: 14}
	for block, blocks := range map[int][2]int{16: {4, 1}, 20: {4, 1}, 61: {1, 1}, 60: {2, 1}, 1024: {1, 1}} {
		for _, ended := range []string{"abort", "commit"} {
			events.Blocks, sessions.Blocks = blocks[0], blocks[1]
			want := checker.Usage{Events: events, Sessions: sessions, State: 2}
			d := dev(t, device.Geometry{Block: block, Scratch: 40}, bytesOf(t, pair(t, ended)))
			if _, u := checker.Trace(config.Usual(), d); u != want {
				t.Errorf("%d, %s: %+v, want %+v", block, ended, u, want)
			}
		}
	}
	o, u := checker.Trace(config.Usual(), dev(t, device.Geometry{Block: 16}, []byte{80, 82, 79, 1, 0, 0}))
	if is(t, "none", o, accept(0)); u != (checker.Usage{}) {
		t.Errorf("%+v", u)
	}
	// Without sound transactions there are no events.
	_, u = checker.Trace(config.Usual(), dev(t, small, bytesOf(t, text(t, "s0 q0 t5-5 c5-5 commit w(a)=x"))))
	if u.Events != (extsort.Stats{}) || u.State != 0 || u.Sessions.Rows != 1 {
		t.Errorf("%+v", u)
	}
	// The outcomes that have no usage, though much was used.
	list, c := busy()
	input := bytesOf(t, list)
	g := device.Geometry{Block: 64, Scratch: 4000}
	c.State = 5
	for _, d := range []*device.Dev{
		dev(t, g, input), // OutState
		dev(t, g, input, device.Fault{Kind: device.FaultWrite, Nth: 99}),
		dev(t, g, input, device.Fault{Kind: device.FaultCrash, Nth: 99}),
		dev(t, g, input[:len(input)-1]),
		dev(t, device.Geometry{Block: 64, Scratch: 30}, input),
	} {
		if o, u := checker.Trace(c, d); u != (checker.Usage{}) || o.Txns != 0 {
			t.Errorf("%+v, %+v", o, u)
		}
	}
}

// Each sort has half of the budget, rounded down, to the byte.
func TestHalves(t *testing.T) {
	for _, x := range []struct{ bytes, budget, runs int }{
		{600, 1200, 1}, {600, 1201, 1}, {601, 1200, 2}, {601, 1201, 2}, {601, 1202, 1}, {601, 1203, 1},
	} {
		// A start of 7 bytes and an end of 23 each; one more byte for the last one's key.
		var list []api.Txn
		for i := range 20 {
			list = append(list, api.Txn{Seq: i, Start: 2*i + 1, End: 2*i + 2, Invoke: 2*i + 1, Return: 2*i + 2, Ops: []api.Op{{Kind: api.OpRead, Key: "sixkey"}}})
		}
		list[19].Ops[0].Key = "sevenkey"[:x.bytes-594]
		c := config.Usual()
		c.Budget = x.budget
		o, u := checker.Trace(c, dev(t, small, bytesOf(t, list)))
		if is(t, "halves", o, accept(20)); u.Events.Bytes != x.bytes || u.Events.Runs != x.runs {
			t.Errorf("budget %d: %+v, want %d runs", x.budget, u.Events, x.runs)
		}
	}
}

// P3: whatever the machine emits is accepted, with its records in any order, and
// has none of layer 20's phenomena; what the flawed ones emit is told.
func TestMachines(t *testing.T) {
	d := dice(11)
	rejected := map[int]int{}
	for round := range 1000 {
		flaw := round % 5
		list, e := machine.Emit(3, flaw, d.steps(20+d.below(100)))
		if e != api.OK {
			t.Fatal(e)
		}
		list = d.shuffle(list)
		o := checker.Run(config.Usual(), dev(t, device.Geometry{Block: 128, Scratch: 2000}, bytesOf(t, list)))
		want, _ := outcome(config.Usual(), bytesOf(t, list))
		is(t, "Run", o, want)
		if flaw == machine.FlawNone {
			is(t, "FlawNone", o, accept(len(list)))
		}
		if (o.Kind == api.OutAccept) != isRun(list, 0) {
			t.Errorf("flaw %d: %+v, but a run: %v", flaw, o, isRun(list, 0))
		}
		if o.Kind != api.OutAccept {
			rejected[flaw]++
			continue
		}
		if phenomena, e := adya.Phenomena(list); len(phenomena) != 0 || e != api.OK {
			t.Errorf("%v: %v, %d", list, phenomena, e)
		}
	}
	for flaw := machine.FlawLost; flaw <= machine.FlawDirty; flaw++ {
		if rejected[flaw] < 20 {
			t.Errorf("flaw %d: %d rejected", flaw, rejected[flaw])
		}
	}
}
