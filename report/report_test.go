package report_test

import (
	"math"
	"reflect"
	"slices"
	"strconv"
	"strings"
	"testing"

	"proctor/api"
	"proctor/report"
)

// The violation of the chapter's form, and its line.
var stale = api.Viol{Kind: api.KindSnapshot, Time: 20, Txn: 3, Op: 0, Witness: 1, Key: "a", Want: true, Expected: "x", From: 10, To: 15}

const (
	staleLine = "snapshot time 20 txn 3 op 0 witness 1 key a want x got - from 10 to 15\n"
	head      = "proctor 1\noutcome "
)

func same(a, b api.Outcome) bool {
	lists := slices.Equal(a.List, b.List)
	a.List, b.List = nil, nil
	return lists && reflect.DeepEqual(a, b)
}

func rejects(total int, list ...api.Viol) api.Outcome {
	return api.Outcome{Kind: api.OutReject, Txns: 12, Total: total, List: list}
}

// rejection is the text of a reject that shows these lines.
func rejection(total int, lines ...string) string {
	return head + "reject\ntxns 12\ntotal " + strconv.Itoa(total) + "\nshown " + strconv.Itoa(len(lines)) + "\n" + strings.Join(lines, "") + "end\n"
}

// text holds an outcome and its text against each other both ways.
func text(t *testing.T, o api.Outcome, want string) {
	t.Helper()
	if !report.Valid(o) {
		t.Errorf("Valid(%+v) = false", o)
	}
	if got, e := report.Render(o); got != want || e != api.OK {
		t.Errorf("Render(%+v) = %q, %d; want %q", o, got, e, want)
	}
	if got, e := report.Parse(want); !same(got, o) || e != api.OK {
		t.Errorf("Parse(%q) = %+v, %d; want %+v", want, got, e, o)
	}
}

func right(t *testing.T, o api.Outcome) {
	t.Helper()
	s, e := report.Render(o)
	if !report.Valid(o) || s == "" || e != api.OK {
		t.Errorf("Render(%+v) = %q, %d; Valid %v", o, s, e, report.Valid(o))
		return
	}
	text(t, o, s)
}

func wrong(t *testing.T, o api.Outcome) {
	t.Helper()
	if report.Valid(o) {
		t.Errorf("Valid(%+v) = true", o)
	}
	if s, e := report.Render(o); s != "" || e != api.ErrReport {
		t.Errorf("Render(%+v) = %q, %d; want ErrReport", o, s, e)
	}
}

func noText(t *testing.T, s string) {
	t.Helper()
	if o, e := report.Parse(s); !same(o, api.Outcome{}) || e != api.ErrReport {
		t.Errorf("Parse(%q) = %+v, %d; want ErrReport", s, o, e)
	}
}

// P22.1 and P22.2: the examples.
func TestExamples(t *testing.T) {
	text(t, api.Outcome{Kind: api.OutAccept, Txns: 4}, "proctor 1\noutcome accept\ntxns 4\nend\n")
	text(t, api.Outcome{Kind: api.OutCrash}, "proctor 1\noutcome crash\nend\n")
	text(t, api.Outcome{Kind: api.OutMalformed, Code: api.ErrTag, Offset: 9}, "proctor 1\noutcome malformed\ncode 60\noffset 9\nend\n")
	noText(t, "proctor 1\noutcome accept\ntxns 04\nend\n")
	text(t, rejects(30, stale), "proctor 1\noutcome reject\ntxns 12\ntotal 30\nshown 1\nsnapshot time 20 txn 3 op 0 witness 1 key a want x got - from 10 to 15\nend\n")
}

// P22.1: the word of each kind, and of what is none.
func TestKind(t *testing.T) {
	words := []string{"", "config", "malformed", "io", "crash", "nospace", "state", "cancelled", "accept", "reject", ""}
	for kind, want := range words {
		if got := report.Kind(kind); got != want {
			t.Errorf("Kind(%d) = %q; want %q", kind, got, want)
		}
	}
	for _, kind := range []int{-1, 11, 256, 257, 1 << 32, 1<<32 + 1, math.MinInt, math.MaxInt} {
		if got := report.Kind(kind); got != "" {
			t.Errorf("Kind(%d) = %q", kind, got)
		}
	}
}

// P22.1 and P22.2: the least outcome of each kind.
func TestKinds(t *testing.T) {
	text(t, api.Outcome{Kind: api.OutConfig, Code: 1}, head+"config\ncode 1\nend\n")
	text(t, api.Outcome{Kind: api.OutMalformed, Code: 1}, head+"malformed\ncode 1\noffset 0\nend\n")
	text(t, api.Outcome{Kind: api.OutIO, Code: 1}, head+"io\ncode 1\nend\n")
	text(t, api.Outcome{Kind: api.OutCrash}, head+"crash\nend\n")
	text(t, api.Outcome{Kind: api.OutNoSpace}, head+"nospace\nend\n")
	text(t, api.Outcome{Kind: api.OutState}, head+"state\nend\n")
	text(t, api.Outcome{Kind: api.OutCancelled}, head+"cancelled\nend\n")
	text(t, api.Outcome{Kind: api.OutAccept}, head+"accept\ntxns 0\nend\n")
	text(t, api.Outcome{Kind: api.OutReject, Total: 1}, head+"reject\ntxns 0\ntotal 1\nshown 0\nend\n")
}

// P22.1 and P22.2: the greatest numbers of each kind.
func TestGreatestNumbers(t *testing.T) {
	text(t, api.Outcome{Kind: api.OutConfig, Code: 999}, head+"config\ncode 999\nend\n")
	text(t, api.Outcome{Kind: api.OutIO, Code: 999}, head+"io\ncode 999\nend\n")
	text(t, api.Outcome{Kind: api.OutMalformed, Code: 999, Offset: 4194304}, head+"malformed\ncode 999\noffset 4194304\nend\n")
	text(t, api.Outcome{Kind: api.OutAccept, Txns: 4096}, head+"accept\ntxns 4096\nend\n")
	text(t, api.Outcome{Kind: api.OutReject, Txns: 4096, Total: 1099511627776}, head+"reject\ntxns 4096\ntotal 1099511627776\nshown 0\nend\n")
	for _, s := range []string{
		"config\ncode 0\nend\n", "config\ncode 1000\nend\n", "io\ncode 0\nend\n", "io\ncode 1000\nend\n",
		"malformed\ncode 0\noffset 0\nend\n", "malformed\ncode 1000\noffset 0\nend\n", "malformed\ncode 1\noffset 4194305\nend\n",
		"accept\ntxns 4097\nend\n", "reject\ntxns 4097\ntotal 1\nshown 0\nend\n",
		"reject\ntxns 1\ntotal 0\nshown 0\nend\n", "reject\ntxns 1\ntotal 1099511627777\nshown 0\nend\n",
		"accept\ntxns 999999999999999\nend\n", "reject\ntxns 1\ntotal 1\nshown 999999999999999\nend\n",
		// A number that would wrap round to a right one.
		"accept\ntxns 18446744073709551617\nend\n", "config\ncode 18446744073709551617\nend\n",
	} {
		noText(t, head+s)
	}
}

// P22.1: what each kind doesn't have is zero, and what it has is in bounds.
func TestWrongFields(t *testing.T) {
	for kind := api.OutConfig; kind <= api.OutReject; kind++ {
		o := api.Outcome{Kind: kind}
		if kind <= api.OutIO {
			o.Code = 5
		}
		if kind == api.OutReject {
			o.Total = 2
		}
		right(t, o)
		offset, txns, total, list := o, o, o, o
		offset.Offset, txns.Txns, total.Total, list.List = 1, 1, 1, []api.Viol{stale}
		bothLists := list
		bothLists.Total = 1
		judge(t, offset, kind == api.OutMalformed)
		judge(t, txns, kind >= api.OutAccept)
		judge(t, total, kind == api.OutReject)
		judge(t, list, kind == api.OutReject)
		judge(t, bothLists, kind == api.OutReject)
		for _, n := range []int{math.MinInt, -1 << 32, -1, 0, 1, 999, 1000, 1 << 32, 1<<32 + 1, math.MaxInt} {
			o.Code = api.Errno(n)
			judge(t, o, kind <= api.OutIO && n >= 1 && n <= 999 || kind > api.OutIO && n == 0)
		}
	}
}

func judge(t *testing.T, o api.Outcome, ok bool) {
	t.Helper()
	if ok {
		right(t, o)
	} else {
		wrong(t, o)
	}
}

// P22.1: the bounds of the numbers, from both sides.
func TestWrongNumbers(t *testing.T) {
	for _, n := range []int{math.MinInt, -1 << 40, -1, 0, 1, 4095, 4096, 4097, 1<<22 - 1, 1 << 22, 1<<22 + 1, 1<<40 - 1, 1 << 40, 1<<40 + 1, 1 << 56, math.MaxInt} {
		judge(t, api.Outcome{Kind: api.OutMalformed, Code: 1, Offset: n}, n >= 0 && n <= 1<<22)
		judge(t, api.Outcome{Kind: api.OutAccept, Txns: n}, n >= 0 && n <= 4096)
		judge(t, api.Outcome{Kind: api.OutReject, Total: 1, Txns: n}, n >= 0 && n <= 4096)
		judge(t, api.Outcome{Kind: api.OutReject, Total: n}, n >= 1 && n <= 1<<40)
		judge(t, api.Outcome{Kind: api.OutReject, Total: n, List: []api.Viol{stale}}, n >= 1 && n <= 1<<40)
	}
	for _, kind := range []int{math.MinInt, -1, 0, 10, 11, 1<<32 + 8, math.MaxInt} {
		wrong(t, api.Outcome{Kind: kind})
		wrong(t, api.Outcome{Kind: kind, Code: 1})
		wrong(t, api.Outcome{Kind: kind, Total: 1})
	}
}

// P22.1 and P22.2: as many violations as there are at most, and one more.
func TestMany(t *testing.T) {
	list := make([]api.Viol, api.MaxList+1)
	lines := make([]string, len(list))
	for i := range list {
		list[i] = stale
		list[i].Time = 20 + i
		lines[i] = strings.Replace(staleLine, "time 20", "time "+strconv.Itoa(20+i), 1)
	}
	for _, n := range []int{0, 1, 2, 9999, 10000} {
		for _, total := range []int{max(n, 1), n + 1, 1 << 40} {
			text(t, rejects(total, list[:n]...), rejection(total, lines[:n]...))
		}
		if n > 1 {
			wrong(t, rejects(n-1, list[:n]...))
			noText(t, rejection(n-1, lines[:n]...))
		}
	}
	wrong(t, rejects(10001, list...))
	noText(t, rejection(10001, lines...))
}

// P22.1 and P22.2: the word of each kind of violation.
func TestViolKinds(t *testing.T) {
	words := []string{"inverted", "client", "early", "late", "twin", "internal", "snapshot", "conflict", "repeat", "session"}
	for i, word := range words {
		v := stale
		v.Kind = 1 + i
		text(t, rejects(1, v), rejection(1, strings.Replace(staleLine, "snapshot", word, 1)))
	}
	for _, word := range []string{"", "Snapshot", "snapshots", "snap", "accept", "7", "#"} {
		noText(t, rejection(1, strings.Replace(staleLine, "snapshot", word, 1)))
	}
}

// P22.1 and P22.2: what is none, what is empty, and words that can't stand.
func TestViolFields(t *testing.T) {
	for _, c := range []struct {
		v    api.Viol
		line string
	}{
		{api.Viol{Kind: 9, Time: 21, Op: -1, Witness: -1, Got: true}, "repeat time 21 txn 0 op - witness - key # want - got # from 0 to 0\n"},
		{api.Viol{Kind: 1}, "inverted time 0 txn 0 op 0 witness 0 key # want - got - from 0 to 0\n"},
		{api.Viol{Kind: 1, Op: -1}, "inverted time 0 txn 0 op - witness 0 key # want - got - from 0 to 0\n"},
		{api.Viol{Kind: 1, Witness: -1}, "inverted time 0 txn 0 op 0 witness - key # want - got - from 0 to 0\n"},
		{api.Viol{Kind: 7, Want: true}, "snapshot time 0 txn 0 op 0 witness 0 key # want # got - from 0 to 0\n"},
		{api.Viol{Kind: 7, Key: "-", Want: true, Expected: "-", Got: true, Observed: "-"}, "snapshot time 0 txn 0 op 0 witness 0 key #2d want #2d got #2d from 0 to 0\n"},
		{api.Viol{Kind: 6, Key: "A", Want: true, Expected: " ", Got: true, Observed: "\n"}, "internal time 0 txn 0 op 0 witness 0 key #41 want #20 got #0a from 0 to 0\n"},
		{api.Viol{Kind: 6, Key: "want", Want: true, Expected: "got", Got: true, Observed: "from"}, "internal time 0 txn 0 op 0 witness 0 key want want got got from from 0 to 0\n"},
		{api.Viol{Kind: 6, Key: "\xff\x00", Want: true, Expected: "\xc3\xa9", Got: true, Observed: "#61"}, "internal time 0 txn 0 op 0 witness 0 key #ff00 want #c3a9 got #233631 from 0 to 0\n"},
		{
			api.Viol{Kind: 10, Time: 1 << 40, Txn: 4095, Op: 15, Witness: 4095, Key: "12345678", Want: true, Expected: "0123456789abcdef", Got: true, Observed: "ABCDEFGHIJKLMNOP", From: 1 << 40, To: 1 << 40},
			"session time 1099511627776 txn 4095 op 15 witness 4095 key 12345678 want 0123456789abcdef got #4142434445464748494a4b4c4d4e4f50 from 1099511627776 to 1099511627776\n",
		},
	} {
		text(t, rejects(1, c.v), rejection(1, c.line))
	}
}

// P22.1: each violation is right by layer 18, wherever it stands.
func TestWrongViols(t *testing.T) {
	for _, spoil := range []func(v *api.Viol){
		func(v *api.Viol) { v.Kind = 0 },
		func(v *api.Viol) { v.Kind = 11 },
		func(v *api.Viol) { v.Txn = -1 },
		func(v *api.Viol) { v.Txn = 4096 },
		func(v *api.Viol) { v.Op = -2 },
		func(v *api.Viol) { v.Op = 16 },
		func(v *api.Viol) { v.Witness = -2 },
		func(v *api.Viol) { v.Witness = 4096 },
		func(v *api.Viol) { v.Key = "123456789" },
		func(v *api.Viol) { v.Want = false },
		func(v *api.Viol) { v.Observed = "x" },
		func(v *api.Viol) { v.Expected = strings.Repeat("x", 17) },
		func(v *api.Viol) { v.Got, v.Observed = true, strings.Repeat("x", 17) },
		func(v *api.Viol) { v.From = -1 },
		func(v *api.Viol) { v.From = 1<<40 + 1 },
		func(v *api.Viol) { v.To = -1 },
		func(v *api.Viol) { v.To = 1<<40 + 1 },
	} {
		for at := range 3 {
			list := []api.Viol{stale, stale, stale}
			list[0].Time, list[2].Time = 19, 21
			spoil(&list[at])
			wrong(t, rejects(3, list...))
		}
	}
	early, late := stale, stale
	early.Time, late.Time = -1, 1<<40+1
	wrong(t, rejects(3, early, stale))
	wrong(t, rejects(3, stale, late))
	wrong(t, rejects(3, api.Viol{}))
}

// P22.1 and P22.2: none comes before the one ahead of it, by Time, Kind, Txn
// and Op; those that are alike there stand in any order.
func TestOrder(t *testing.T) {
	line := func(time, txn, op string) string {
		return "snapshot time " + time + " txn " + txn + " op " + op + " witness 1 key a want x got - from 10 to 15\n"
	}
	for _, c := range []struct {
		change     func(v *api.Viol)
		laterLine  string
		mayBeAhead bool
	}{
		{func(v *api.Viol) { v.Time = 21 }, line("21", "3", "0"), false},
		{func(v *api.Viol) { v.Kind = 8 }, strings.Replace(staleLine, "snapshot", "conflict", 1), false},
		{func(v *api.Viol) { v.Txn = 10 }, line("20", "10", "0"), false},
		{func(v *api.Viol) { v.Op = 1 }, line("20", "3", "1"), false},
		{func(v *api.Viol) {}, staleLine, true},
		{func(v *api.Viol) { v.Witness = 2 }, strings.Replace(staleLine, "witness 1", "witness 2", 1), true},
		{func(v *api.Viol) { v.Key = "b" }, strings.Replace(staleLine, "key a", "key b", 1), true},
		{func(v *api.Viol) { v.Expected = "y" }, strings.Replace(staleLine, "want x", "want y", 1), true},
		{func(v *api.Viol) { v.From = 11 }, strings.Replace(staleLine, "from 10", "from 11", 1), true},
	} {
		later := stale
		c.change(&later)
		text(t, rejects(2, stale, later), rejection(2, staleLine, c.laterLine))
		if c.mayBeAhead {
			text(t, rejects(2, later, stale), rejection(2, c.laterLine, staleLine))
			continue
		}
		wrong(t, rejects(2, later, stale))
		wrong(t, rejects(3, stale, later, stale))
		noText(t, rejection(2, c.laterLine, staleLine))
		noText(t, rejection(3, staleLine, c.laterLine, staleLine))
	}
	first := stale
	first.Op = -1
	text(t, rejects(2, first, stale), rejection(2, line("20", "3", "-"), staleLine))
	wrong(t, rejects(2, stale, first))
	noText(t, rejection(2, staleLine, line("20", "3", "-")))
}

// P22.2: lines that are missing, twice, out of their place or of another kind.
func TestWrongLines(t *testing.T) {
	for _, s := range []string{
		"", "\n", " ", "proctor 1", "proctor 1\n", "proctor 1\nend\n", "outcome crash\nend\n", "end\n",
		"proctor 2\noutcome crash\nend\n", "proctor 01\noutcome crash\nend\n", "Proctor 1\noutcome crash\nend\n", "proctor 1 \noutcome crash\nend\n", "\nproctor 1\noutcome crash\nend\n", " proctor 1\noutcome crash\nend\n", "proctor 1\r\noutcome crash\r\nend\r\n", "proctor 1\n\noutcome crash\nend\n",
		head, head + "crash", head + "crash\n", head + "crash\nend", head + "crash\nend ", head + "crash\nend \n", head + "crash\nend\n\n", head + "crash\nend\nend\n", head + "crash\n\nend\n", head + "crash \nend\n", head + " crash\nend\n", head + "Crash\nend\n", head + "\nend\n", head + "4\nend\n", head + "crash\nEND\n", head + "crash\x00\nend\n", head + "crash\nend\n" + head + "crash\nend\n",
		head + "crash\ncode 34\nend\n", head + "nospace\ncode 42\nend\n", head + "state\ntxns 0\nend\n", head + "cancelled\ntotal 0\nend\n", head + "crash\noffset 0\nend\n", head + "crash\nshown 0\nend\n",
		head + "config\nend\n", head + "config\ncode 1\noffset 0\nend\n", head + "config\ntxns 1\nend\n", head + "config\ncode\nend\n", head + "config\ncode \nend\n", head + "config\ncode  1\nend\n", head + "config\ncode 1 \nend\n", head + "config\ncode -1\nend\n", head + "config\ncode +1\nend\n", head + "config\ncode 01\nend\n", head + "config\ncode 1\ncode 1\nend\n", head + "config\ncode1\nend\n", head + "config\ncode ErrFan\nend\n",
		head + "io\ncode 37\ntxns 0\nend\n", head + "malformed\ncode 60\nend\n", head + "malformed\noffset 9\nend\n", head + "malformed\noffset 9\ncode 60\nend\n", head + "malformed\ncode 60 offset 9\nend\n",
		head + "accept\nend\n", head + "accept\ntxns 4\ntotal 0\nend\n", head + "accept\ntxns 4\nshown 0\nend\n", head + "accept\ntxn 4\nend\n", head + "accept\ntxns -0\nend\n", head + "accept\ntxns 00\nend\n", head + "accept\ntxns #34\nend\n", head + "accept\ntxns 4\n" + staleLine + "end\n",
		head + "reject\ntxns 12\ntotal 1\nend\n", head + "reject\ntxns 12\nshown 0\nend\n", head + "reject\ntotal 1\nshown 0\nend\n", head + "reject\ntotal 1\ntxns 12\nshown 0\nend\n", head + "reject\ntxns 12\nshown 0\ntotal 1\nend\n",
		head + "reject\ntxns 12\ntotal 1\nshown 1\nend\n", head + "reject\ntxns 12\ntotal 1\nshown 0\n" + staleLine + "end\n", head + "reject\ntxns 12\ntotal 2\nshown 2\n" + staleLine + "end\n", head + "reject\ntxns 12\ntotal 2\nshown 1\n" + staleLine + staleLine + "end\n", head + "reject\ntxns 12\ntotal 1\nshown -\n" + staleLine + "end\n", head + "reject\ntxns 12\ntotal 1\nshown 01\n" + staleLine + "end\n", head + "reject\ntxns 12\ntotal 1\nshown 1\n" + staleLine, head + "reject\ntxns 12\ntotal 1\nshown 1\n\n" + staleLine + "end\n", head + "reject\ntxns 12\ntotal 1\nshown 1\n" + staleLine + "\nend\n",
	} {
		noText(t, s)
	}
}

// P22.2: a violation's line, part by part.
func TestWrongViolLines(t *testing.T) {
	text(t, rejects(1, stale), rejection(1, staleLine))
	for _, c := range [][2]string{
		{"time 20", "time -"}, {"time 20", "time 020"}, {"time 20", "time -20"}, {"time 20", "time 1099511627777"}, {"time 20", "time"}, {"time 20 ", ""}, {"time", "Time"}, {"time 20 txn 3", "txn 3 time 20"}, {"time 20", "time 20 time 20"},
		{"txn 3", "txn -"}, {"txn 3", "txn -1"}, {"txn 3", "txn 03"}, {"txn 3", "txn 4096"}, {"txn 3", "txns 3"}, {"txn 3 ", ""},
		{"op 0", "op -1"}, {"op 0", "op 16"}, {"op 0", "op 00"}, {"op 0", "op --"}, {"op 0", "op"}, {"op 0", "op #"}, {"op 0", "op -0"}, {"op 0 ", ""}, {"op 0", "op - 0"},
		{"witness 1", "witness -1"}, {"witness 1", "witness 4096"}, {"witness 1", "witness 01"}, {"witness 1", "witness "}, {"witness 1", "witness -\n"}, {"witness 1 ", ""},
		{"key a", "key -"}, {"key a", "key "}, {"key a", "key"}, {"key a", "key A"}, {"key a", "key #61"}, {"key a", "key #4"}, {"key a", "key #4A"}, {"key a", "key 123456789"}, {"key a", "key #414141414141414141"}, {"key a ", ""}, {"key a", "key a b"}, {"key a", "key a\n"},
		{"want x", "want X"}, {"want x", "want "}, {"want x", "want --"}, {"want x", "want #78"}, {"want x", "want -x"}, {"want x", "want #2D"}, {"want x", "want 0123456789abcdef0"}, {"want x ", ""}, {"want x got -", "got - want x"},
		{"got -", "got"}, {"got -", "got "}, {"got -", "got -0"}, {"got -", "got #00112233445566778899aabbccddeeff00"}, {"got - ", ""}, {"got -", "got False"},
		{"from 10", "from -"}, {"from 10", "from 1099511627777"}, {"from 10", "from 010"}, {"from 10 ", ""},
		{"to 15", "to -"}, {"to 15", "to 1099511627777"}, {"to 15", "to 015"}, {"to 15", "to 15 "}, {"to 15", "to 15 op 0"}, {"to 15", "to "}, {" to 15", ""}, {"to 15\n", "to 15"}, {"to 15\n", "to 15 "},
		{"snapshot ", ""}, {"snapshot ", " snapshot "}, {"snapshot ", "snapshot  "}, {"snapshot ", "snapshot"}, {"snapshot ", "snapshot\n"}, {"snapshot ", "snapshot\t"},
	} {
		line := strings.Replace(staleLine, c[0], c[1], 1)
		if line == staleLine {
			t.Fatalf("%q is not changed by %q", staleLine, c)
		}
		noText(t, rejection(1, line))
		noText(t, rejection(2, staleLine, line))
	}
	for at := range len(staleLine) {
		noText(t, rejection(1, staleLine[:at]))
		if staleLine[at] == ' ' {
			noText(t, rejection(1, staleLine[:at]+" "+staleLine[at:]))
			noText(t, rejection(1, staleLine[:at]+staleLine[at+1:]))
		}
	}
}

// P22.2: every front of a text, and a text with one byte more or one put in.
func TestPieces(t *testing.T) {
	whole := rejection(3, staleLine, strings.Replace(staleLine, "time 20", "time 21", 1))
	if _, e := report.Parse(whole); e != api.OK {
		t.Fatalf("Parse(%q) = %d", whole, e)
	}
	for at := range len(whole) {
		noText(t, whole[:at])
		noText(t, whole[at+1:])
		noText(t, whole[:at]+"\n"+whole[at:])
		noText(t, whole[:at]+" "+whole[at:])
		noText(t, whole[:at]+"\x00"+whole[at:])
		noText(t, whole[:at]+"\xff"+whole[at+1:])
	}
	for b := range 256 {
		noText(t, whole+string([]byte{byte(b)}))
	}
}

// Long texts end, and soon.
func TestLong(t *testing.T) {
	many := strings.Repeat("9", 1<<20)
	for _, s := range []string{
		many, head + many, head + "accept\ntxns " + many + "\nend\n", head + "reject\ntxns 1\ntotal 1\nshown " + many,
		rejection(1, strings.Replace(staleLine, "key a", "key "+many, 1)), rejection(1, strings.Replace(staleLine, "want x", "want #"+many, 1)),
		head + "crash\nend\n" + many, strings.Repeat(head, 1<<16), head + "reject\ntxns 1\ntotal 99999\nshown 99999\n" + strings.Repeat(staleLine, 99999) + "end\n",
	} {
		if o, e := report.Parse(s); !same(o, api.Outcome{}) || e != api.ErrReport {
			t.Errorf("Parse of %d bytes = %d", len(s), e)
		}
	}
}

// The examples of the whole, whose outcomes the document names.
func TestWhole(t *testing.T) {
	text(t, api.Outcome{Kind: api.OutMalformed, Code: api.ErrTotal, Offset: 5}, head+"malformed\ncode 72\noffset 5\nend\n")
	text(t, api.Outcome{Kind: api.OutReject, Txns: 2, Total: 1, List: []api.Viol{{Kind: api.KindConflict, Time: 7, Txn: 1, Op: 1, Key: "a", From: 3, To: 4}}},
		head+"reject\ntxns 2\ntotal 1\nshown 1\nconflict time 7 txn 1 op 1 witness 0 key a want - got - from 3 to 4\nend\n")
	text(t, api.Outcome{Kind: api.OutReject, Txns: 1, Total: 2, List: []api.Viol{{Kind: api.KindInverted, Time: 5, Op: -1, Witness: -1, From: 5, To: 5}, {Kind: api.KindEarly, Time: 5, Op: -1, Witness: -1, From: 9, To: 5}}},
		head+"reject\ntxns 1\ntotal 2\nshown 2\ninverted time 5 txn 0 op - witness - key # want - got - from 5 to 5\nearly time 5 txn 0 op - witness - key # want - got - from 9 to 5\nend\n")
	text(t, api.Outcome{Kind: api.OutReject, Txns: 2, Total: 1, List: []api.Viol{{Kind: api.KindSession, Time: 5, Txn: 1, Op: -1, From: 9, To: 5}}},
		head+"reject\ntxns 2\ntotal 1\nshown 1\nsession time 5 txn 1 op - witness 0 key # want - got - from 9 to 5\nend\n")
	text(t, api.Outcome{Kind: api.OutIO, Code: api.ErrWrite}, head+"io\ncode 38\nend\n")
}

// The rules that hold everywhere: what is handed in isn't changed, its spare
// room neither, and what is answered is new.
func TestOwnMemory(t *testing.T) {
	later, last := stale, stale
	later.Time, last.Time = 30, 1
	room := []api.Viol{stale, later, last}
	o := rejects(2, room[:2]...)
	report.Valid(o)
	report.Valid(rejects(3, room...))
	report.Render(rejects(3, room...))
	s, e := report.Render(o)
	if e != api.OK || !slices.Equal(room, []api.Viol{stale, later, last}) {
		t.Errorf("changed: %+v, %d", room, e)
	}
	a, _ := report.Parse(s)
	b, _ := report.Parse(s)
	spare := a.List[:cap(a.List)]
	for i := range spare {
		spare[i] = api.Viol{}
	}
	if !same(b, o) {
		t.Errorf("shared: %+v", b)
	}
	room[0].Key = "b"
	if !strings.Contains(s, " key a ") || b.List[0].Key != "a" {
		t.Errorf("kept: %q, %+v", s, b)
	}
	empty := []api.Viol{}
	text(t, api.Outcome{Kind: api.OutAccept, List: empty}, head+"accept\ntxns 0\nend\n")
	text(t, api.Outcome{Kind: api.OutCrash, List: empty}, head+"crash\nend\n")
	text(t, api.Outcome{Kind: api.OutReject, Total: 1, List: empty}, head+"reject\ntxns 0\ntotal 1\nshown 0\nend\n")
}
