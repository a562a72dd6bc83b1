package console_test

import (
	"slices"
	"strconv"
	"strings"
	"testing"

	"proctor/api"
	"proctor/console"
)

// listed is the exchanges that put these transactions on the empty list.
func listed(txns ...string) []exchange {
	list := []exchange{{"drop", "ok"}}
	for i, txn := range txns {
		list = append(list, exchange{"txn " + txn, "ok " + strconv.Itoa(i+1)})
	}
	return list
}

// looked holds what the history of these transactions is said to be against deps, phenomena and serial.
func looked(t *testing.T, txns []string, deps, phenomena, serial string) {
	t.Helper()
	talks(t, append(listed(txns...),
		exchange{"deps", deps},
		exchange{"phenomena", phenomena},
		exchange{"serial", serial},
		exchange{"show", script(txns...) + "ok " + strconv.Itoa(len(txns))})...)
}

func TestLooks(t *testing.T) {
	looked(t, nil, "ok 0", "ok", "ok")
	looked(t, []string{"s0 q0 t1-5 c1-5 commit r(a)=- w(b)=x", "s1 q0 t2-6 c2-6 commit r(b)=- w(a)=y"},
		"rw 0 1 a\nrw 1 0 b\nok 2", "ok", "none")
	looked(t, []string{"s0 q0 t1-5 c1-5 commit r(a)=- w(a)=x", "s1 q0 t2-6 c2-6 commit r(a)=- w(a)=y"},
		"ww 0 1 a\nrw 1 0 a\nok 2", "ok 5 6", "none")
	// the keys as words, all three kinds between two places, the places out of the order of time
	looked(t, []string{
		"s1 q0 t5-9 c5-9 commit r(#41)=# w(#41)=y w(a)=b r(z)=-",
		"s0 q0 t1-4 c1-4 commit w(#41)=# d(a)",
		"s2 q0 t10-12 c10-12 commit d(z)",
		"s3 q0 t1-20 c1-20 abort w(z)=q",
		"s4 q0 t9-9 c9-9 commit w(z)=q",
	}, "rw 0 2 z\nww 1 0 #41\nww 1 0 a\nwr 1 0 #41\nok 4", "ok", "ok 1 0 2")
	// an aborted value is read; a value that was written over is read
	looked(t, []string{
		"s0 q0 t1-4 c1-4 commit w(a)=x w(a)=y",
		"s1 q0 t2-3 c2-3 abort w(b)=v",
		"s2 q0 t5-6 c5-6 commit r(a)=x r(b)=v",
	}, "wr 0 2 a\nok 1", "ok 1 2 3", "ok 0 2")
	// a cycle of dependencies on what comes later
	looked(t, []string{
		"s0 q0 t1-9 c1-9 commit w(a)=x",
		"s1 q0 t2-9 c2-9 commit w(a)=y",
		"s2 q0 t9-10 c9-10 commit r(a)=y",
	}, "ww 0 1 a\nwr 1 2 a\nok 2", "ok 5", "ok 0 1 2")
}

// TestLarge: a list of up to 256 transactions has a history.
func TestLarge(t *testing.T) {
	var txns []string
	for i := range api.MaxHistory {
		txns = append(txns, "s"+strconv.Itoa(i)+" q0 t1-2 c1-2 abort")
	}
	looked(t, txns, "ok 0", "ok", "ok")
	txns = append(txns, "s999 q0 t1-2 c1-2 abort")
	looked(t, txns, "error 200", "error 200", "error 200")
	talks(t, append(listed(txns...), exchange{"seal", sealed(t, txns)}, exchange{"run", accept(257)})...)
}

func TestManyLines(t *testing.T) {
	for _, line := range []string{"drop", "", "nothing"} {
		answer := "error 250\n"
		if line == "drop" {
			answer = "ok\n"
		}
		most := strings.Repeat(line+"\n", api.MaxLines)
		answers(t, most, strings.Repeat(answer, api.MaxLines))
		for _, over := range []string{most + "\n", most + "d", most + most, most + " "} {
			if s, e := console.Run(over); s != "" || e != api.ErrCommand {
				t.Errorf("%d lines of %q: %d bytes, %d", strings.Count(over, "\n"), line, len(s), e)
			}
		}
	}
	answers(t, strings.Repeat("drop\n", api.MaxLines-1)+"drop", strings.Repeat("ok\n", api.MaxLines))
}

// longest has as many bytes as the line of a transaction with these numbers can have.
func longest() string {
	return "s0 q0 t1-5 c1-5 commit" + strings.Repeat(" w(#0000000000000000)=#00000000000000000000000000000000", api.MaxOps)
}

// filling is a script whose answer has just n bytes, the last line's only few, and that answer.
func filling(n int) (string, string) {
	line := longest()
	lines, answer := []string{"txn " + line}, "ok 1\n"
	for shown := script(line, "ok 1"); len(answer)+len(shown)+30 <= n; {
		lines, answer = append(lines, "show"), answer+shown
	}
	for (n-len(answer))%3 != 0 {
		lines, answer = append(lines, "x"), answer+"error 250\n" // a byte more than three threes
	}
	for len(answer) < n {
		lines, answer = append(lines, "drop"), answer+"ok\n"
	}
	return script(lines...), answer
}

// TestMuchAnswer: past the bound the next line, if there is one, ends the script.
func TestMuchAnswer(t *testing.T) {
	for n := api.MaxAnswer - 3; n <= api.MaxAnswer; n++ {
		text, answer := filling(n)
		answers(t, text, answer)
		answers(t, text+"raw a", answer+"ok 1\n")
		answers(t, text+"raw a\n", answer+"ok 1\n")
		answers(t, text+"\n", answer+"error 250\n")
	}
	for n := api.MaxAnswer + 1; n <= api.MaxAnswer+3; n++ {
		text, answer := filling(n)
		answers(t, text, answer)
		for _, more := range []string{"raw a", "raw a\n", "raw a\nraw a\n", "\n", "\n\n\n", "show\nshow\nshow"} {
			answers(t, text+more, answer+"error 252\n")
		}
	}
	text, answer := filling(api.MaxAnswer)
	answers(t, text+"drop\ndrop\n", answer+"ok\nerror 252\n")
	long := text + strings.Repeat("drop\n", api.MaxLines-strings.Count(text, "\n"))
	answers(t, long, answer+"ok\nerror 252\n")
	if s, e := console.Run(long + "drop"); s != "" || e != api.ErrCommand {
		t.Errorf("too many lines: %d bytes, %d", len(s), e)
	}
}

// TestOneAnswerPastTheBound: it is told whole, and where it is the last one nothing is put behind it.
func TestOneAnswerPastTheBound(t *testing.T) {
	txns := slices.Repeat([]string{longest()}, 200)
	list := append(listed(txns...), exchange{"show", script(txns...) + "ok 200"})
	talks(t, list...)
	talks(t, append(list, exchange{"show", "error 252"})...)
}

// TestKeptApart: a script finds nothing of the ones ahead of it.
func TestKeptApart(t *testing.T) {
	ahead := script("config limit=0 eps=9", "txn s0 q0 t5-9 c7-9 commit", "seal", "machine 1 0", "begin 0 0")
	first, _ := console.Run(ahead)
	for range 2 {
		answers(t, "emit\nshow\nrun\n", script("error 251", "ok 0", text("malformed", "code 51", "offset 0")))
		answers(t, script("txn s0 q0 t5-9 c7-9 commit", "seal", "run"),
			script("ok 1", "ok 15", reject(1, 1, "early time 5 txn 0 op - witness - key # want - got - from 7 to 5")))
		answers(t, ahead, first)
	}
}
