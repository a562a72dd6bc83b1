package console_test

import (
	"strconv"
	"strings"
	"testing"

	"proctor/api"
	"proctor/console"
	"proctor/logfile"
	"proctor/notation"
)

// script puts lines together, each with a line end behind it.
func script(lines ...string) string {
	if len(lines) == 0 {
		return ""
	}
	return strings.Join(lines, "\n") + "\n"
}

// answers holds a script's answer against want, line by line.
func answers(t *testing.T, text, want string) {
	t.Helper()
	s, e := console.Run(text)
	if e != api.OK {
		t.Fatalf("Run(%.300q) answers %d", text, e)
	}
	got, wanted := strings.SplitAfter(s, "\n"), strings.SplitAfter(want, "\n")
	for i := range max(len(got), len(wanted)) {
		if i >= len(got) || i >= len(wanted) || got[i] != wanted[i] {
			t.Fatalf("Run(%.300q), line %d on: %.300q, want %.300q", text, i, got[min(i, len(got)):], wanted[min(i, len(wanted)):])
		}
	}
}

// exchange is a line and what it is answered, without the last line end.
type exchange struct{ line, answer string }

// talks holds a script's answers against those that stand beside its lines.
func talks(t *testing.T, exchanges ...exchange) {
	t.Helper()
	var lines, want []string
	for _, x := range exchanges {
		lines, want = append(lines, x.line), append(want, x.answer)
	}
	answers(t, script(lines...), script(want...))
}

// text is an outcome's.
func text(lines ...string) string { return "proctor 1\noutcome " + strings.Join(lines, "\n") + "\nend" }

func accept(txns int) string { return text("accept", "txns "+strconv.Itoa(txns)) }

func reject(txns, total int, shown ...string) string {
	head := []string{"reject", "txns " + strconv.Itoa(txns), "total " + strconv.Itoa(total), "shown " + strconv.Itoa(len(shown))}
	return text(append(head, shown...)...)
}

// sealed is what seal answers for a list of these lines.
func sealed(t *testing.T, lines []string) string {
	t.Helper()
	list, _, e := notation.ParseLog(script(lines...))
	log, _, e2 := logfile.Encode(list)
	if e != api.OK || e2 != api.OK {
		t.Fatalf("%q is no log: %d, %d", lines, e, e2)
	}
	return "ok " + strconv.Itoa(len(log))
}

// checked holds the outcome of a check of these transactions against want.
func checked(t *testing.T, config string, txns []string, want string) {
	t.Helper()
	list := []exchange{{config, "ok"}}
	for i, txn := range txns {
		list = append(list, exchange{"txn " + txn, "ok " + strconv.Itoa(i+1)})
	}
	talks(t, append(list, exchange{"seal", sealed(t, txns)}, exchange{"run", want})...)
}

func TestExamples(t *testing.T) {
	answers(t, "machine 1 0\nbegin 0 0\nwrite 0 0 a x\ncommit 0 0\nemit\nshow\nseal\nrun\n",
		"ok\nok\nok\nok commit\nok 1\ns0 q0 t1-3 c0-3 commit w(a)=x\nok 1\nok 20\nproctor 1\noutcome accept\ntxns 1\nend\n")
	answers(t, "run", "proctor 1\noutcome malformed\ncode 51\noffset 0\nend\n")
	answers(t, "run ", "error 250\n")
	answers(t, "until 05", "error 210\n")
	answers(t, "commit 0 0", "error 251\n")
	answers(t, "", "")
	answers(t, "\n", "error 250\n")
}

// TestWhole plays those of the ten examples of the whole that a script can.
func TestWhole(t *testing.T) {
	writes := "s0 q0 t1-4 c0-4 commit w(a)=x"
	lost := "conflict time 7 txn 1 op 1 witness 0 key a want - got - from 3 to 4"
	talks(t, exchange{"seal", "ok 6"}, exchange{"run", accept(0)})
	talks(t, exchange{"raw #50524f010001", "ok 6"}, exchange{"run", text("malformed", "code 72", "offset 5")})
	checked(t, "config", []string{writes, "s1 q0 t3-7 c2-7 abort r(a)=- w(a)=y"}, accept(2))
	checked(t, "config", []string{writes, "s1 q0 t3-7 c2-7 commit r(a)=- w(a)=y"}, reject(2, 1, lost))
	checked(t, "config", []string{writes, "s1 q0 t5-7 c5-7 commit r(a)=-"},
		reject(2, 1, "snapshot time 7 txn 1 op 0 witness 0 key a want x got - from 4 to 5"))
	checked(t, "config", []string{"s0 q0 t5-5 c9-9 commit"}, reject(1, 2,
		"inverted time 5 txn 0 op - witness - key # want - got - from 5 to 5",
		"early time 5 txn 0 op - witness - key # want - got - from 9 to 5"))
	checked(t, "config eps=4", []string{"s0 q0 t5-5 c9-9 commit"}, reject(1, 1,
		"inverted time 5 txn 0 op - witness - key # want - got - from 5 to 5"))
	checked(t, "config", []string{"s0 q0 t1-9 c1-9 commit", "s0 q1 t5-8 c5-8 commit"}, reject(2, 1,
		"session time 5 txn 1 op - witness 0 key # want - got - from 9 to 5"))
	checked(t, "config state=1", []string{writes, "s1 q0 t3-7 c2-7 abort r(a)=- w(a)=y"}, text("state"))
}

func TestLostUpdateOfAMachine(t *testing.T) {
	for flaw, want := range []struct{ commit, status, outcome string }{
		{"ok abort", "abort", accept(2)},
		{"ok commit", "commit", reject(2, 1, "conflict time 7 txn 1 op 1 witness 0 key a want - got - from 3 to 4")},
	} {
		talks(t,
			exchange{"machine 2 " + strconv.Itoa(flaw), "ok"},
			exchange{"begin 0 0", "ok"},
			exchange{"write 0 0 a x", "ok"},
			exchange{"begin 1 0", "ok"},
			exchange{"commit 0 0", "ok commit"},
			exchange{"read 1 0 a", "ok -"},
			exchange{"write 1 0 a y", "ok"},
			exchange{"commit 1 0", want.commit},
			exchange{"emit", "ok 2"},
			exchange{"show", "s0 q0 t1-4 c0-4 commit w(a)=x\ns1 q0 t3-7 c2-7 " + want.status + " r(a)=- w(a)=y\nok 2"},
			exchange{"seal", "ok 37"},
			exchange{"run", want.outcome})
	}
}

// TestLines: a line is what stands ahead of each line end, and what stands behind the last one, if it isn't empty.
func TestLines(t *testing.T) {
	answers(t, "drop", "ok\n")
	answers(t, "drop\n", "ok\n")
	answers(t, "drop\n\n", "ok\nerror 250\n")
	answers(t, "\ndrop", "error 250\nok\n")
	answers(t, "drop\ndrop", "ok\nok\n")
	answers(t, " ", "error 250\n")
	answers(t, "drop\r\n", "error 250\n")
	answers(t, "drop\x00", "error 250\n")
	answers(t, "drop\vdrop\u2028drop", "error 250\n")
}

// TestPieces: pieces stand between single blanks, and their number is the row's.
func TestPieces(t *testing.T) {
	right := map[string]int{
		"drop": 1, "raw a": 2, "seal": 1, "run": 1, "until 0": 2, "machine 1 0": 3,
		"begin 0 0": 3, "commit 0 0": 3, "abort 0 0": 3, "read 0 0 a": 4, "delete 0 0 a": 4, "write 0 0 a b": 5,
		"emit": 1, "show": 1, "deps": 1, "phenomena": 1, "serial": 1,
	}
	for line, n := range right {
		pieces := strings.Split(line, " ")
		if len(pieces) != n {
			t.Fatalf("%q has %d pieces", line, len(pieces))
		}
		if s, e := console.Run(line); s == "error 250\n" || s == "error 210\n" || e != api.OK {
			t.Errorf("Run(%q) = %q, %d", line, s, e)
		}
		for fewer := 1; fewer < n; fewer++ {
			answers(t, strings.Join(pieces[:fewer], " "), "error 250\n")
		}
		for _, wrong := range []string{line + " ", line + " 0", line + " a b", " " + line, strings.ToUpper(line), "x" + line, line[:2], line[1:]} {
			answers(t, wrong, "error 250\n")
		}
		if n > 1 {
			answers(t, strings.Replace(line, " ", "  ", 1), "error 250\n")
			answers(t, strings.Replace(line, " ", "\t", 1), "error 250\n")
			answers(t, pieces[0]+strings.Repeat(" ", n-1), "error 210\n")
		}
	}
	for _, line := range []string{"configs", "txns", "confi", "tx", "config\t", "txn#", "Config", "error 250", "ok", "0", "#"} {
		answers(t, line, "error 250\n")
	}
}

// TestForms: a piece that is no word or no number, wherever it stands, and though the line would be refused for more.
func TestForms(t *testing.T) {
	for _, wrong := range []string{"", "00", "05", "-1", "+1", "1000000000000000", "a", "1a", "#31", "0x1", "1\r"} {
		for _, line := range []string{
			"until %", "machine % 0", "machine 1 %", "machine 99 %", "begin % 0", "begin 0 %", "commit % 0", "commit 99 %",
			"abort % 0", "abort 0 %", "read % 0 a", "read 0 % a", "delete % 0 a", "delete 0 % a", "write % 0 a x", "write 0 % a x",
		} {
			line = strings.Replace(line, "%", wrong, 1)
			answers(t, line, "error 210\n")
			talks(t, exchange{"machine 1 0", "ok"}, exchange{line, "error 210"})
		}
	}
	for _, wrong := range []string{"", "A", "a-", "-", "#6", "#61", "#4A", "#zz", "a#", "##", "a\r", "\xc3\xa9"} {
		for _, line := range []string{
			"raw %", "read 0 0 %", "read 99 0 %", "delete 0 0 %", "write 0 0 % x", "write 0 0 a %", "write 0 9999 a %",
		} {
			line = strings.Replace(line, "%", wrong, 1)
			answers(t, line, "error 210\n")
			talks(t, exchange{"machine 1 0", "ok"}, exchange{line, "error 210"})
		}
	}
}

func TestConfig(t *testing.T) {
	skewed := "s0 q0 t5-9 c7-9 commit"
	early := "early time 5 txn 0 op - witness - key # want - got - from 7 to 5"
	list := []exchange{{"txn " + skewed, "ok 1"}, {"seal", "ok 15"}, {"run", reject(1, 1, early)}}
	for _, c := range []struct{ config, answer, outcome string }{
		{"config eps=2", "ok", accept(1)},
		{"config eps=1", "ok", reject(1, 1, early)},
		{"config limit=0", "ok", reject(1, 1)},
		{"config limit=1 eps=1", "ok", reject(1, 1, early)},
		{"config eps=2 fan=2 budget=1200 limit=10000 state=1048576", "ok", accept(1)},
		{"config", "ok", reject(1, 1, early)},
		{"config eps=3", "ok", accept(1)},
		{"config ", "ok", reject(1, 1, early)},
		{"config eps=3", "ok", accept(1)},
		{"config limit=0", "ok", reject(1, 1)}, // what isn't said is usual, not what it was
		{"config  ", "error 230", reject(1, 1)},
		{"config  eps=3", "error 230", reject(1, 1)},
		{"config eps=3 ", "error 230", reject(1, 1)},
		{"config eps=3 eps=3", "error 230", reject(1, 1)},
		{"config eps=03", "error 230", reject(1, 1)},
		{"config usual", "error 230", reject(1, 1)},
		{"config eps=3 budget=1199", "error 100", reject(1, 1)},
		{"config eps=3 fan=1", "error 110", reject(1, 1)},
		{"config eps=3 state=1048577", "error 160", reject(1, 1)},
		{"config eps=1099511627777", "error 171", reject(1, 1)},
		{"config eps=3 limit=10001", "error 180", reject(1, 1)},
		{"config state=0", "ok", text("state")},
	} {
		list = append(list, exchange{c.config, c.answer}, exchange{"run", c.outcome}, exchange{"until 4", c.outcome})
	}
	talks(t, list...)
}

func TestTxn(t *testing.T) {
	one, two := "s0 q0 t1-4 c0-4 commit w(a)=x", "s1 q0 t3-7 c2-7 abort r(a)=- d(#00) r(a)=#"
	show := one + "\n" + two + "\nok 2"
	list := []exchange{{"show", "ok 0"}, {"txn " + one, "ok 1"}, {"show", one + "\nok 1"}, {"txn " + two, "ok 2"}, {"show", show}}
	for _, c := range []exchange{
		{"txn", "error 210"},
		{"txn ", "error 210"},
		{"txn  " + one, "error 210"},
		{"txn " + one + " ", "error 210"},
		{"txn s0", "error 210"},
		{"txn S0 q0 t1-4 c0-4 commit", "error 210"},
		{"txn s1048576 q0 t1-4 c0-4 commit", "error 62"},
		{"txn s0 q0 t1-4 c0-4 commit w(#)=x", "error 64"},
		{"txn s0 q0 t1-4 c0-4 commit w(a)=00000000000000000", "error 64"},
		{"txn s0 q0 t1-4 c0-4 commit" + strings.Repeat(" d(a)", 17), "error 63"},
	} {
		list = append(list, c, exchange{"show", show})
	}
	talks(t, append(list, exchange{"txn " + one, "ok 3"}, exchange{"show", one + "\n" + two + "\n" + one + "\nok 3"})...)
}

func TestDrop(t *testing.T) {
	talks(t,
		exchange{"drop", "ok"},
		exchange{"txn s0 q0 t1-4 c0-4 commit", "ok 1"},
		exchange{"txn s0 q0 t1-4 c0-4 commit", "ok 2"},
		exchange{"seal", "ok 24"},
		exchange{"config limit=0", "ok"},
		exchange{"machine 1 0", "ok"},
		exchange{"begin 0 0", "ok"},
		exchange{"drop", "ok"},
		exchange{"show", "ok 0"},
		exchange{"deps", "ok 0"},
		exchange{"run", reject(2, 2)}, // the input, the config and the machine stay
		exchange{"commit 0 0", "ok commit"},
		exchange{"txn s0 q0 t1-4 c0-4 commit", "ok 1"})
}

func TestRaw(t *testing.T) {
	large, over := strings.Repeat("a", api.MaxRaw), strings.Repeat("a", api.MaxRaw+1)
	magic := text("malformed", "code 70", "offset 0")
	talks(t,
		exchange{"raw #50524f010000", "ok 6"},
		exchange{"run", accept(0)},
		exchange{"raw #50524f01", "ok 4"},
		exchange{"run", text("malformed", "code 51", "offset 4")},
		exchange{"raw #50524f02", "ok 4"},
		exchange{"run", text("malformed", "code 70", "offset 3")},
		exchange{"raw #", "ok 0"},
		exchange{"run", text("malformed", "code 51", "offset 0")},
		exchange{"raw abc", "ok 3"},
		exchange{"run", magic},
		exchange{"raw " + large, "ok 65536"},
		exchange{"run", magic},
		exchange{"raw #50524f010000", "ok 6"},
		exchange{"raw " + over, "error 31"},
		exchange{"run", accept(0)},
		exchange{"raw #" + strings.Repeat("00", api.MaxRaw+1), "error 31"},
		exchange{"raw " + over + "-", "error 210"},
		exchange{"run", accept(0)},
		exchange{"raw #" + strings.Repeat("00", api.MaxRaw), "ok 65536"},
		exchange{"run", magic},
		exchange{"show", "ok 0"})
}

func TestSeal(t *testing.T) {
	talks(t,
		exchange{"seal", "ok 6"},
		exchange{"run", accept(0)},
		exchange{"txn s0 q0 t1-4 c0-4 commit w(a)=x", "ok 1"},
		exchange{"run", accept(0)}, // what is checked is what was sealed
		exchange{"seal", "ok 20"},
		exchange{"run", accept(1)},
		exchange{"drop", "ok"},
		exchange{"run", accept(1)},
		exchange{"raw #", "ok 0"},
		exchange{"run", text("malformed", "code 51", "offset 0")},
		exchange{"seal", "ok 6"},
		exchange{"run", accept(0)})
}

func TestUntil(t *testing.T) {
	list := []exchange{
		{"txn s0 q0 t1-4 c0-4 commit w(a)=x", "ok 1"},
		{"txn s1 q0 t3-7 c2-7 abort r(a)=- w(a)=y", "ok 2"},
		{"seal", "ok 37"},
	}
	for n := range 8 {
		list = append(list, exchange{"until " + strconv.Itoa(n), text("cancelled")})
	}
	talks(t, append(list,
		exchange{"until 8", accept(2)},
		exchange{"until 8", accept(2)}, // each line has a stop of its own
		exchange{"until 9", accept(2)},
		exchange{"until 1099511627776", accept(2)},
		exchange{"until 1099511627777", "error 10"},
		exchange{"until 999999999999999", "error 10"},
		exchange{"run", accept(2)},
		exchange{"raw #", "ok 0"},
		exchange{"until 0", text("malformed", "code 51", "offset 0")})...)
}

// TestRoom checks the greatest logs that a script can have, in the least memory.
func TestRoom(t *testing.T) {
	ops := strings.Repeat(" w(#0000000000000000)=#00000000000000000000000000000000", api.MaxOps)
	var large []string
	for i := range 997 {
		start, end := strconv.Itoa(1<<39+2*i), strconv.Itoa(1<<39+2*i+1)
		large = append(large, "s1048575 q"+strconv.Itoa(1<<19+i)+" t"+start+"-"+end+" c"+start+"-"+end+" commit"+ops)
	}
	for _, config := range []string{"config", "config budget=1200 fan=2", "config budget=1200 fan=64", "config budget=16777216"} {
		checked(t, config, large, accept(len(large)))
	}
}

// TestManyRaw: a list can't have as many transactions as a log may, but bytes can.
func TestManyRaw(t *testing.T) {
	var list []api.Txn
	for i := range api.MaxTxns {
		list = append(list, api.Txn{Session: i, Start: 1, End: 2, Invoke: 1, Return: 2})
	}
	log, _, _ := logfile.Encode(list)
	for _, config := range []string{"config", "config budget=1200 fan=2", "config budget=1200 fan=64"} {
		talks(t,
			exchange{config, "ok"},
			exchange{"raw " + notation.Word(string(log)), "ok " + strconv.Itoa(len(log))},
			exchange{"run", accept(api.MaxTxns)})
	}
}

func TestMachine(t *testing.T) {
	talks(t,
		exchange{"machine 0 0", "error 150"},
		exchange{"emit", "error 251"}, // a machine that is refused is none
		exchange{"machine 65 0", "error 150"},
		exchange{"machine 1 5", "error 158"},
		exchange{"machine 0 5", "error 150"},
		exchange{"machine 999999999999999 0", "error 150"},
		exchange{"machine 64 4", "ok"},
		exchange{"begin 63 0", "ok"},
		exchange{"begin 64 0", "error 152"},
		exchange{"machine 65 0", "error 150"},
		exchange{"commit 63 0", "ok commit"}, // the one that is there stays
		exchange{"emit", "ok 1"},
		exchange{"machine 1 0", "ok"},
		exchange{"show", "s63 q0 t1-2 c0-2 commit\nok 1"}, // the list is nobody's but the script's
		exchange{"emit", "ok 0"},
		exchange{"show", "ok 0"},
		exchange{"begin 63 0", "error 152"},
		exchange{"begin 0 0", "ok"},
		exchange{"abort 0 0", "ok"},
		exchange{"emit", "ok 1"},
		exchange{"show", "s0 q0 t1-2 c0-2 abort\nok 1"})
}

func TestNoMachine(t *testing.T) {
	for _, line := range []string{
		"begin 0 0", "commit 0 0", "abort 0 0", "read 0 0 a", "delete 0 0 a", "write 0 0 a x", "emit",
		"begin 99 9999", "read 0 0 #", "write 0 0 a 00000000000000000",
	} {
		answers(t, line, "error 251\n")
		talks(t, exchange{"machine 1 9", "error 158"}, exchange{line, "error 251"})
	}
}

// TestSteps: each step with what it is told, and the times that the gaps make.
func TestSteps(t *testing.T) {
	log := []string{
		"s0 q0 t1-1024 c0-1024 commit w(a)=x w(#4142)=# r(a)=x r(#4142)=# r(b)=- w(b)=#2d r(b)=#2d d(a) r(a)=-",
		"s1 q0 t1023-1034 c1020-1034 abort r(b)=- w(b)=y",
		"s0 q1 t1032-1040 c1026-1040 abort r(b)=#2d w(b)=z",
		"s1 q1 t1041-1043 c1040-1043 commit r(b)=#2d",
	}
	talks(t,
		exchange{"machine 2 0", "ok"},
		exchange{"begin 0 0", "ok"},
		exchange{"write 0 10 a x", "ok"},
		exchange{"write 0 0 #4142 #", "ok"},
		exchange{"read 0 0 a", "ok x"},
		exchange{"read 0 0 #4142", "ok #"},
		exchange{"read 0 0 b", "ok -"},
		exchange{"write 0 0 b #2d", "ok"},
		exchange{"read 0 0 b", "ok #2d"},
		exchange{"delete 0 1000 a", "ok"},
		exchange{"read 0 0 a", "ok -"},
		exchange{"begin 1 2", "ok"},
		exchange{"commit 0 0", "ok commit"},
		exchange{"read 1 0 b", "ok -"},
		exchange{"write 1 0 b y", "ok"},
		exchange{"begin 0 5", "ok"},
		exchange{"read 0 0 b", "ok #2d"},
		exchange{"commit 1 0", "ok abort"},
		exchange{"write 0 0 b z", "ok"},
		exchange{"abort 0 4", "ok"},
		exchange{"begin 1 0", "ok"},
		exchange{"read 1 0 b", "ok #2d"},
		exchange{"commit 1 0", "ok commit"},
		exchange{"emit", "ok 4"},
		exchange{"show", script(log...) + "ok 4"},
		exchange{"seal", sealed(t, log)},
		exchange{"run", accept(4)})
}

// TestRefusedSteps: each error of a step, behind which all goes on as if the line weren't there.
func TestRefusedSteps(t *testing.T) {
	list := []exchange{{"machine 2 0", "ok"}, {"begin 0 0", "ok"}}
	for _, x := range []exchange{
		{"begin 2 0", "error 152"},
		{"begin 1 1001", "error 153"},
		{"begin 2 1001", "error 152"},
		{"commit 2 0", "error 152"},
		{"commit 0 1001", "error 153"},
		{"abort 0 1001", "error 153"},
		{"abort 1 0", "error 156"},
		{"commit 1 0", "error 156"},
		{"begin 0 0", "error 155"},
		{"read 0 0 #", "error 130"},
		{"read 0 0 aaaaaaaaa", "error 130"},
		{"read 0 1001 #", "error 153"},
		{"read 1 0 a", "error 156"},
		{"delete 0 0 #", "error 130"},
		{"delete 1 0 a", "error 156"},
		{"write 0 0 # x", "error 130"},
		{"write 0 0 # 00000000000000000", "error 130"},
		{"write 0 0 a 00000000000000000", "error 157"},
		{"write 1 0 a x", "error 156"},
		{"write 0 0 a #zz", "error 210"},
		{"write 0 0 a", "error 250"},
	} {
		list = append(list, x)
	}
	for range api.MaxOps {
		list = append(list, exchange{"write 0 0 aaaaaaaa 0000000000000000", "ok"})
	}
	talks(t, append(list,
		exchange{"write 0 0 a x", "error 63"},
		exchange{"read 0 0 a", "error 63"},
		exchange{"delete 0 0 a", "error 63"},
		exchange{"commit 0 1000", "ok commit"},
		exchange{"emit", "ok 1"},
		exchange{"show", "s0 q0 t1-1018 c0-1018 commit" + strings.Repeat(" w(aaaaaaaa)=0000000000000000", api.MaxOps) + "\nok 1"})...)
}

// TestFlaws: the flaw that is named is the one that the machine has.
func TestFlaws(t *testing.T) {
	for flaw, told := range []string{"v", "v", "y", "-", "w"} {
		talks(t,
			exchange{"machine 3 " + strconv.Itoa(flaw), "ok"},
			exchange{"begin 0 0", "ok"},
			exchange{"write 0 0 a v", "ok"},
			exchange{"commit 0 0", "ok commit"},
			exchange{"begin 1 0", "ok"},
			exchange{"begin 0 0", "ok"},
			exchange{"write 0 0 a y", "ok"},
			exchange{"commit 0 0", "ok commit"},
			exchange{"begin 2 0", "ok"},
			exchange{"write 2 0 a w", "ok"},
			exchange{"read 1 0 a", "ok " + told})
	}
}

// TestEmit: the list is the machine's finished transactions and nothing else, and stays so while the machine goes on.
func TestEmit(t *testing.T) {
	talks(t,
		exchange{"txn s9 q0 t1-4 c0-4 commit", "ok 1"},
		exchange{"emit", "error 251"},
		exchange{"show", "s9 q0 t1-4 c0-4 commit\nok 1"},
		exchange{"machine 2 0", "ok"},
		exchange{"begin 0 0", "ok"},
		exchange{"begin 1 0", "ok"},
		exchange{"abort 1 0", "ok"},
		exchange{"emit", "ok 1"},
		exchange{"show", "s1 q0 t2-3 c1-3 abort\nok 1"},
		exchange{"txn s9 q0 t1-4 c0-4 commit", "ok 2"},
		exchange{"commit 0 0", "ok commit"},
		exchange{"show", "s1 q0 t2-3 c1-3 abort\ns9 q0 t1-4 c0-4 commit\nok 2"},
		exchange{"emit", "ok 2"},
		exchange{"show", "s1 q0 t2-3 c1-3 abort\ns0 q0 t1-4 c0-4 commit\nok 2"},
		exchange{"drop", "ok"},
		exchange{"emit", "ok 2"})
}
