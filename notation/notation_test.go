package notation_test

import (
	"math"
	"reflect"
	"slices"
	"strings"
	"testing"

	"proctor/api"
	"proctor/notation"
	"proctor/record"
)

func read(key, value string) api.Op {
	return api.Op{Kind: api.OpRead, Key: key, Found: true, Value: value}
}

func readNone(key string) api.Op {
	return api.Op{Kind: api.OpRead, Key: key}
}

func write(key, value string) api.Op {
	return api.Op{Kind: api.OpWrite, Key: key, Found: true, Value: value}
}

func deleted(key string) api.Op {
	return api.Op{Kind: api.OpDelete, Key: key}
}

// first is the first example of layer 6, with these operations.
func first(ops ...api.Op) api.Txn {
	return api.Txn{Session: 1, Start: 5, End: 9, Invoke: 5, Return: 9, Status: api.Committed, Ops: ops}
}

const head = "s1 q0 t5-9 c5-9 commit"

func same(a, b api.Txn) bool {
	ops := slices.Equal(a.Ops, b.Ops)
	a.Ops, b.Ops = nil, nil
	return ops && reflect.DeepEqual(a, b)
}

func sameLog(a, b []api.Txn) bool {
	return slices.EqualFunc(a, b, same)
}

// word holds a list of bytes and its word against each other both ways.
func word(t *testing.T, s, want string) {
	t.Helper()
	if got := notation.Word(s); got != want {
		t.Errorf("Word(%q) = %q; want %q", s, got, want)
	}
	if got, e := notation.Unword(want); got != s || e != api.OK {
		t.Errorf("Unword(%q) = %q, %d; want %q", want, got, e, s)
	}
}

func noWord(t *testing.T, w string) {
	t.Helper()
	if s, e := notation.Unword(w); s != "" || e != api.ErrText {
		t.Errorf("Unword(%q) = %q, %d; want ErrText", w, s, e)
	}
}

func number(t *testing.T, w string, want int) {
	t.Helper()
	if n, e := notation.Number(w); n != want || e != api.OK {
		t.Errorf("Number(%q) = %d, %d; want %d", w, n, e, want)
	}
}

func noNumber(t *testing.T, w string) {
	t.Helper()
	if n, e := notation.Number(w); n != 0 || e != api.ErrText {
		t.Errorf("Number(%q) = %d, %d; want ErrText", w, n, e)
	}
}

// line holds a transaction and its line against each other both ways.
func line(t *testing.T, x api.Txn, want string) {
	t.Helper()
	if got, e := notation.Print(x); got != want || e != api.OK {
		t.Errorf("Print(%+v) = %q, %d; want %q", x, got, e, want)
	}
	if got, e := notation.Parse(want); !same(got, x) || e != api.OK {
		t.Errorf("Parse(%q) = %+v, %d; want %+v", want, got, e, x)
	}
}

func noPrint(t *testing.T, x api.Txn, want api.Errno) {
	t.Helper()
	if s, e := notation.Print(x); s != "" || e != want {
		t.Errorf("Print(%+v) = %q, %d; want %d", x, s, e, want)
	}
}

func noParse(t *testing.T, text string, want api.Errno) {
	t.Helper()
	if x, e := notation.Parse(text); !reflect.DeepEqual(x, api.Txn{}) || e != want {
		t.Errorf("Parse(%q) = %+v, %d; want %d", text, x, e, want)
	}
}

// log holds a list of transactions and its text against each other both ways.
func log(t *testing.T, list []api.Txn, want string) {
	t.Helper()
	if got, at, e := notation.PrintLog(list); got != want || at != 0 || e != api.OK {
		t.Errorf("PrintLog of %d transactions = %d bytes, %d, %d; want %d bytes", len(list), len(got), at, e, len(want))
	}
	if got, at, e := notation.ParseLog(want); !sameLog(got, list) || at != 0 || e != api.OK {
		t.Errorf("ParseLog of %d bytes = %d transactions, %d, %d; want %d", len(want), len(got), at, e, len(list))
	}
}

func noPrintLog(t *testing.T, list []api.Txn, place int, want api.Errno) {
	t.Helper()
	if s, at, e := notation.PrintLog(list); s != "" || at != place || e != want {
		t.Errorf("PrintLog of %d transactions = %q, %d, %d; want %d, %d", len(list), s, at, e, place, want)
	}
}

func noParseLog(t *testing.T, text string, place int, want api.Errno) {
	t.Helper()
	if list, at, e := notation.ParseLog(text); len(list) != 0 || at != place || e != want {
		t.Errorf("ParseLog of %d bytes = %+v, %d, %d; want %d, %d", len(text), list, at, e, place, want)
	}
}

// P21.1: the words of the examples, and at the edges of what stands as it is.
func TestWords(t *testing.T) {
	for s, w := range map[string]string{
		"x1": "x1", "": "#", "A": "#41", "a": "a", "z": "z", "0": "0", "9": "9",
		"`": "#60", "{": "#7b", "/": "#2f", ":": "#3a", "#": "#23", "-": "#2d", " ": "#20", "\n": "#0a", "\x00": "#00", "Z": "#5a",
		"abcdefghijklmnopqrstuvwxyz0123456789": "abcdefghijklmnopqrstuvwxyz0123456789",
		"aB":                                   "#6142", "Ba": "#4261", "a b": "#612062", "#61": "#233631",
		"\xff": "#ff", "a\x80": "#6180", "\xc3\xa9": "#c3a9", "\xef\xbf\xbd": "#efbfbd", "\xef\xbd\x81": "#efbd81", "\xd9\xa1": "#d9a1",
	} {
		word(t, s, w)
	}
}

// P21.1: every byte, alone and behind one that can stand.
func TestEveryByte(t *testing.T) {
	const digits = "0123456789abcdef"
	for i := range 256 {
		s := string([]byte{byte(i)})
		hex := string([]byte{digits[i/16], digits[i%16]})
		if strings.Contains("abcdefghijklmnopqrstuvwxyz0123456789", s) {
			word(t, s, s)
			word(t, "k"+s, "k"+s)
			noWord(t, "#"+hex)
			noWord(t, "#6b"+hex)
		} else {
			word(t, s, "#"+hex)
			word(t, "k"+s, "#6b"+hex)
			noWord(t, "k"+s)
		}
	}
}

// P21.1: each list of bytes has just one word.
func TestNoWords(t *testing.T) {
	for _, w := range []string{
		"", "#61", "#4A", "#4", "#414", "#zz", "#4g", "#g4", "#4 ", "# 4", "#-1", "#+1", "#0x", "##", "#41#", "##41", "#6161", "#7a", "#30", "#39",
		"A", "-", "a-", " a", "a ", "a\n", "x#", "x#41", "\xff", "a\xff", "\xc3\xa9", "a\x00", "#41\n",
	} {
		noWord(t, w)
	}
}

// P21.1: a word has no greatest length.
func TestLongWords(t *testing.T) {
	word(t, strings.Repeat("ab1", 100000), strings.Repeat("ab1", 100000))
	word(t, strings.Repeat("ab1", 100000)+"\xff", "#"+strings.Repeat("616231", 100000)+"ff")
	noWord(t, "#"+strings.Repeat("616231", 100000))
}

// P21.1: the numbers of the examples, and the edges of their length.
func TestNumbers(t *testing.T) {
	for w, n := range map[string]int{
		"0": 0, "1": 1, "9": 9, "10": 10, "100": 100, "1048575": api.MaxId, "1099511627776": api.MaxTime,
		"100000000000000": 100000000000000, "123456789012345": 123456789012345, "999999999999999": 999999999999999,
	} {
		number(t, w, n)
	}
	for _, w := range []string{
		"", "007", "00", "01", "1x", "x1", "-1", "+1", "-0", " 1", "1 ", "1\n", "1_0", "0x1", "1.0", "1e3", "a", "/", ":", "1/", "1:",
		"1000000000000000", "1234567890123456", "000000000000000", "000000000000001", "9223372036854775807", "18446744073709551616",
		"\xd9\xa1", "\xef\xbc\x91", strings.Repeat("1", 100000),
	} {
		noNumber(t, w)
	}
}

// P21.2: the chapter's lines.
func TestExamples(t *testing.T) {
	line(t, first(write("a", "x")), "s1 q0 t5-9 c5-9 commit w(a)=x")
	line(t, api.Txn{Session: 1, Start: 10, End: 20, Invoke: 9, Return: 21, Status: api.Committed, Ops: []api.Op{
		readNone("a"), write("a", "x1"), deleted("b"), readNone("b"),
	}}, "s1 q0 t10-20 c9-21 commit r(a)=- w(a)=x1 d(b) r(b)=-")
	noParse(t, "s1 q0 t5-9 c5-9 commit ", api.ErrText)
	noParse(t, "s1 q0 t5-9 c5-9 commit d(#)", api.ErrOp)
}

// P21.2: every kind of operation, and each field at its bounds.
func TestLines(t *testing.T) {
	line(t, api.Txn{}, "s0 q0 t0-0 c0-0 abort")
	line(t, first(), head)
	line(t, api.Txn{Session: 1, Seq: 2, Start: 3, End: 4, Invoke: 5, Return: 6}, "s1 q2 t3-4 c5-6 abort")
	line(t, api.Txn{Session: api.MaxId, Seq: api.MaxId, Start: api.MaxTime, End: api.MaxTime, Invoke: api.MaxTime, Return: api.MaxTime, Status: api.Committed},
		"s1048575 q1048575 t1099511627776-1099511627776 c1099511627776-1099511627776 commit")
	line(t, api.Txn{Start: 9, End: 5, Invoke: 8, Return: 2}, "s0 q0 t9-5 c8-2 abort")
	for text, op := range map[string]api.Op{
		"r(a)=-": readNone("a"), "r(a)=x": read("a", "x"), "r(a)=#": read("a", ""), "r(a)=#2d": read("a", "-"), "r(#29)=#29": read(")", ")"),
		"w(a)=x": write("a", "x"), "w(a)=#": write("a", ""), "w(#20)=#00ff": write(" ", "\x00\xff"), "w(w)=w": write("w", "w"),
		"d(a)": deleted("a"), "d(#0a)": deleted("\n"), "d(d)": deleted("d"), "d(0)": deleted("0"), "w(007)=00": write("007", "00"),
		"r(#4b4b4b4b4b4b4b4b)=#4b4b4b4b4b4b4b4b4b4b4b4b4b4b4b4b": read("KKKKKKKK", "KKKKKKKKKKKKKKKK"),
	} {
		line(t, first(op), head+" "+text)
		line(t, first(op, op), head+" "+text+" "+text)
	}
	line(t, first(slices.Repeat([]api.Op{deleted("a")}, 16)...), head+strings.Repeat(" d(a)", 16))
}

// P21.2: what isn't right has no line; the rules of layer 6 in their order.
func TestNotRight(t *testing.T) {
	many := slices.Repeat([]api.Op{deleted("a")}, 17)
	noPrint(t, first(many...), api.ErrOps)
	noPrint(t, first(append(many, deleted(""))...), api.ErrOps)
	for _, n := range []int{-1, math.MinInt, math.MaxInt, api.MaxTime + 1} {
		noPrint(t, api.Txn{Session: n}, api.ErrField)
		noPrint(t, api.Txn{Seq: n}, api.ErrField)
		noPrint(t, api.Txn{Start: n}, api.ErrField)
		noPrint(t, api.Txn{End: n}, api.ErrField)
		noPrint(t, api.Txn{Invoke: n}, api.ErrField)
		noPrint(t, api.Txn{Return: n, Ops: many}, api.ErrField)
		noPrint(t, api.Txn{Status: n}, api.ErrField)
		noPrint(t, first(api.Op{Kind: n, Key: "a"}), api.ErrOp)
	}
	for _, op := range []api.Op{
		{}, {Kind: 4, Key: "a"}, deleted(""), deleted("123456789"), write("a", "12345678901234567"),
		{Kind: api.OpRead, Key: "a", Value: "x"}, {Kind: api.OpWrite, Key: "a"}, {Kind: api.OpDelete, Key: "a", Found: true}, {Kind: api.OpDelete, Key: "a", Value: "x"},
	} {
		noPrint(t, first(op), api.ErrOp)
		noPrint(t, first(deleted("a"), op), api.ErrOp)
	}
}

// P21.2: of the form, with any numbers and words and any number of
// operations, but not right.
func TestFormAlone(t *testing.T) {
	for _, text := range []string{
		"s1048576 q0 t5-9 c5-9 commit", "s1 q1048576 t5-9 c5-9 commit", "s1 q0 t1099511627777-9 c5-9 commit", "s1 q0 t5-1099511627777 c5-9 commit",
		"s1 q0 t5-9 c1099511627777-9 commit", "s1 q0 t5-9 c5-1099511627777 commit", "s999999999999999 q0 t5-9 c5-9 abort",
		"s1048576 q0 t5-9 c5-9 commit d(#)", "s1048576 q0 t5-9 c5-9 commit" + strings.Repeat(" d(a)", 17),
	} {
		noParse(t, text, api.ErrField)
	}
	for _, op := range []string{"d(#)", "r(#)=-", "r(#)=x", "w(#)=x", "d(123456789)", "d(#414141414141414141)", "w(a)=12345678901234567", "r(a)=12345678901234567"} {
		noParse(t, head+" "+op, api.ErrOp)
		noParse(t, head+" d(a) "+op+" d(a)", api.ErrOp)
		noParse(t, head+strings.Repeat(" "+op, 17), api.ErrOps)
	}
	noParse(t, head+strings.Repeat(" d(a)", 17), api.ErrOps)
	noParse(t, head+strings.Repeat(" d(a)", 18), api.ErrOps)
	noParse(t, head+strings.Repeat(" d(a)", 100000), api.ErrOps)
	noParse(t, head+strings.Repeat(" d(a)", 100000)+" ", api.ErrText)
	noParse(t, head+strings.Repeat(" d(a)", 18)+" x", api.ErrText)
	noParse(t, head+" d("+strings.Repeat("a", 100000)+")", api.ErrOp)
}

// P21.2: wrong lines, part by part; the form is asked ahead of what is right.
func TestNoLines(t *testing.T) {
	for _, text := range []string{
		"", " ", "\n", "s", "s1", "s1 ", "s1 q0", "s1 q0 t5-9", "s1 q0 t5-9 c5-9", "s1 q0 t5-9 c5-9 ",
		" " + head, head + " ", head + "\n", head + "\r", head + "\x00", "\xef\xbb\xbf" + head, head + " " + head,
		"S1 q0 t5-9 c5-9 commit", "1 q0 t5-9 c5-9 commit", "s q0 t5-9 c5-9 commit", "s01 q0 t5-9 c5-9 commit", "s-1 q0 t5-9 c5-9 commit", "s+1 q0 t5-9 c5-9 commit",
		"s 1 q0 t5-9 c5-9 commit", "s1q0 t5-9 c5-9 commit", "s1  q0 t5-9 c5-9 commit", "s1\tq0 t5-9 c5-9 commit", "s1 0 t5-9 c5-9 commit", "s1 q t5-9 c5-9 commit", "s1 q00 t5-9 c5-9 commit",
		"q0 s1 t5-9 c5-9 commit", "s1 q0 c5-9 t5-9 commit", "s1 q0 t5 c5-9 commit", "s1 q0 t5- c5-9 commit", "s1 q0 t-9 c5-9 commit", "s1 q0 t5--9 c5-9 commit", "s1 q0 t5-09 c5-9 commit",
		"s1 q0 t05-9 c5-9 commit", "s1 q0 t5 -9 c5-9 commit", "s1 q0 t5- 9 c5-9 commit", "s1 q0 t5-9-9 c5-9 commit", "s1 q0 t5_9 c5-9 commit", "s1 q0 t5-9  c5-9 commit", "s1 q0 t5-9c5-9 commit",
		"s1 q0 t5-9 5-9 commit", "s1 q0 t5-9 c05-9 commit", "s1 q0 t5-9 c5-09 commit", "s1 q0 t5-9 c5 commit", "s1 q0 t5-9 c5-9commit", "s1 q0 t5-9 c5-9  commit",
		"s1 q0 t5-9 c5-9 done", "s1 q0 t5-9 c5-9 Commit", "s1 q0 t5-9 c5-9 commi", "s1 q0 t5-9 c5-9 commits", "s1 q0 t5-9 c5-9 commitabort", "s1 q0 t5-9 c5-9 aborts", "s1 q0 t5-9 c5-9 commit abort", "s1 q0 t5-9 c5-9 1",
		"s1 q0 t5-9 c5-9 w(a)=x", "s1 q0 t5-9 c5-9 commitw(a)=x", "s1 q0 t5-9 c5-9 commit  w(a)=x",
		"s1000000000000000 q0 t5-9 c5-9 commit", "s1 q0 t5-9 c5-9999999999999999 commit",
	} {
		noParse(t, text, api.ErrText)
	}
	for _, op := range []string{
		"x", "r", "w", "d", "r(", "r()", "r(a", "r(a)", "r(a)=", "r(a)=--", "r(a)=- ", "r(a)=-x", "r(a)-", "r(a) =-", "r (a)=-", "r( a)=-", "r(a )=-", "r(a)= -", "r(a)x", "r(A)=-", "r(#61)=-", "r(a)=#61", "r(a)=X",
		"r(a-", "r()=-", "ra=-", "r[a]=-", "r((a)=-", "r(a))=-", "r(a)==-", "R(a)=-", "(a)=-", "x(a)=x", "r(a#)=-", "r(a,b)=-", "r(-)=-",
		"w(a)", "w(a)=", "w(a)=-", "w(a)=x-", "w(a)=-x", "w(a)=#6", "w(a)=#4A", "w(a)=x#", "w(a)=x(", "w()=x", "w(a)=xw(b)=x", "W(a)=x", "w(a)=x\n",
		"d(a)=x", "d(a)=-", "d(a)=", "d(a)d(a)", "d()", "d(a", "da", "d(a))", "d(a) ", "D(a)", "d(a)\n", "d(#4)", "d(-)", "d(\xff)",
	} {
		noParse(t, head+" "+op, api.ErrText)
		noParse(t, head+" d(a) "+op+" d(a)", api.ErrText)
		noParse(t, "s1048576 q0 t5-9 c5-9 commit "+op, api.ErrText)
		noParse(t, head+" d(#) "+op, api.ErrText)
		noParse(t, head+strings.Repeat(" d(a)", 17)+" "+op, api.ErrText)
	}
}

// P21.3: the logs of the examples of the whole, by layer 21's lines.
func TestLogs(t *testing.T) {
	log(t, nil, "")
	log(t, []api.Txn{
		{Start: 1, End: 4, Return: 4, Status: api.Committed, Ops: []api.Op{write("a", "x")}},
		{Session: 1, Start: 3, End: 7, Invoke: 2, Return: 7, Ops: []api.Op{readNone("a"), write("a", "y")}},
	}, "s0 q0 t1-4 c0-4 commit w(a)=x\ns1 q0 t3-7 c2-7 abort r(a)=- w(a)=y\n")
	log(t, []api.Txn{
		{Start: 1, End: 5, Invoke: 1, Return: 5, Status: api.Committed, Ops: []api.Op{readNone("a"), write("b", "x")}},
		{Session: 1, Start: 2, End: 6, Invoke: 2, Return: 6, Status: api.Committed, Ops: []api.Op{readNone("b"), write("a", "y")}},
	}, "s0 q0 t1-5 c1-5 commit r(a)=- w(b)=x\ns1 q0 t2-6 c2-6 commit r(b)=- w(a)=y\n")
	log(t, []api.Txn{{Start: 5, End: 5, Invoke: 9, Return: 9, Status: api.Committed}}, "s0 q0 t5-5 c9-9 commit\n")
	log(t, []api.Txn{
		{Start: 1, End: 9, Invoke: 1, Return: 9, Status: api.Committed},
		{Seq: 1, Start: 5, End: 8, Invoke: 5, Return: 8, Status: api.Committed},
	}, "s0 q0 t1-9 c1-9 commit\ns0 q1 t5-8 c5-8 commit\n")
	log(t, []api.Txn{first(), first(write("\n", "\n")), first()}, head+"\n"+head+" w(#0a)=#0a\n"+head+"\n")
}

// P21.3: at MaxTxns transactions and past it.
func TestMany(t *testing.T) {
	full := slices.Repeat([]api.Txn{first(write("a", "x"))}, api.MaxTxns)
	text := strings.Repeat(head+" w(a)=x\n", api.MaxTxns)
	log(t, full, text)
	noPrintLog(t, append(full, first()), 0, api.ErrTxns)
	noPrintLog(t, append(full, first(deleted(""))), 0, api.ErrTxns)
	noPrintLog(t, append([]api.Txn{{Session: -1}}, full...), 0, api.ErrTxns)
	for _, more := range []string{head + "\n", head, "\n", "x\n", "x", head + "\n" + head + "\n", head + " d(#)\n"} {
		noParseLog(t, text+more, api.MaxTxns, api.ErrTxns)
	}
	noParseLog(t, head+" d(#)\n"+text, 0, api.ErrOp)
	noParseLog(t, text[:len(text)-1], api.MaxTxns-1, api.ErrText)
	noParseLog(t, text[:len(text)-1]+" \n"+head+"\n", api.MaxTxns-1, api.ErrText)
}

// P21.3: the greatest log there is.
func TestGreatest(t *testing.T) {
	value := strings.Repeat("\xff", api.MaxValue)
	great := api.Txn{Session: api.MaxId, Seq: api.MaxId, Start: api.MaxTime, End: api.MaxTime, Invoke: api.MaxTime, Return: api.MaxTime, Status: api.Committed,
		Ops: slices.Repeat([]api.Op{write(value[:api.MaxKey], value)}, api.MaxOps)}
	one := "s1048575 q1048575 t1099511627776-1099511627776 c1099511627776-1099511627776 commit" +
		strings.Repeat(" w(#ffffffffffffffff)=#ffffffffffffffffffffffffffffffff", api.MaxOps)
	line(t, great, one)
	log(t, slices.Repeat([]api.Txn{great}, api.MaxTxns), strings.Repeat(one+"\n", api.MaxTxns))
}

// P21.3: the place of the first that isn't right.
func TestFirstNotRight(t *testing.T) {
	bad := first(deleted(""))
	noPrintLog(t, []api.Txn{bad}, 0, api.ErrOp)
	noPrintLog(t, []api.Txn{first(), first(), bad, {Status: 2}}, 2, api.ErrOp)
	noPrintLog(t, []api.Txn{first(), {Status: 2}, bad}, 1, api.ErrField)
	noPrintLog(t, []api.Txn{first(), first(slices.Repeat([]api.Op{deleted("")}, 17)...), {Status: 2}}, 1, api.ErrOps)
}

// P21.3: the number of the first line that fails, and why.
func TestFirstLine(t *testing.T) {
	good := head + "\n"
	for _, c := range []struct {
		text  string
		place int
		want  api.Errno
	}{
		{"\n", 0, api.ErrText}, {"\n\n", 0, api.ErrText}, {"x", 0, api.ErrText}, {head, 0, api.ErrText}, {"\n" + good, 0, api.ErrText},
		{good + "\n", 1, api.ErrText}, {good + head, 1, api.ErrText}, {good + "\n" + good, 1, api.ErrText}, {good + " ", 1, api.ErrText}, {good + good + "\x00", 2, api.ErrText},
		{head + "\r\n", 0, api.ErrText}, {good + head + "\r", 1, api.ErrText}, {good + head + " d(#)", 1, api.ErrText},
		{good + head + " d(#)\n", 1, api.ErrOp}, {good + head + " d(#)\nx\n", 1, api.ErrOp}, {good + "x\n" + head + " d(#)\n", 1, api.ErrText},
		{good + good + head + strings.Repeat(" d(a)", 17) + "\n", 2, api.ErrOps}, {good + "s1048576 q0 t5-9 c5-9 commit\n" + head, 1, api.ErrField},
	} {
		noParseLog(t, c.text, c.place, c.want)
	}
}

// The rules that hold everywhere: what is handed in isn't changed, and what is
// answered is new.
func TestOwnMemory(t *testing.T) {
	ops := []api.Op{write("a", "x"), deleted("b"), readNone("c")}
	list := []api.Txn{first(ops[:2]...), first(ops[:1]...), first()}
	text, _, e := notation.PrintLog(list[:2])
	if e != api.OK || !slices.Equal(ops, []api.Op{write("a", "x"), deleted("b"), readNone("c")}) || !sameLog(list, []api.Txn{first(ops[:2]...), first(ops[:1]...), first()}) {
		t.Errorf("changed: %+v, %+v", ops, list)
	}
	notation.Print(list[0])
	if !same(list[0], first(ops[:2]...)) || ops[2] != readNone("c") {
		t.Errorf("changed: %+v", ops)
	}
	a, _, _ := notation.ParseLog(text)
	b, _, _ := notation.ParseLog(text)
	one, _ := notation.Parse(head + " w(a)=x d(b)")
	two, _ := notation.Parse(head + " w(a)=x d(b)")
	for _, x := range append(slices.Clone(a), one) {
		room := x.Ops[:cap(x.Ops)]
		for i := range room {
			room[i] = api.Op{}
		}
	}
	spare := a[:cap(a)]
	for i := range spare {
		spare[i] = api.Txn{}
	}
	if !sameLog(b, list[:2]) || !same(two, list[0]) {
		t.Errorf("shared: %+v, %+v", b, two)
	}
}

// Two lists of one answer share no room: what is put behind one is not seen in
// the other.
func TestListsApart(t *testing.T) {
	text := strings.Repeat(head+" w(a)=x d(b) r(c)=-\n", 20)
	list, _, _ := notation.ParseLog(text)
	for i := range list {
		room := list[i].Ops[:cap(list[i].Ops)]
		for j := range room {
			room[j] = write("k", strings.Repeat("v", i))
		}
	}
	for i, x := range list {
		for _, op := range x.Ops[:cap(x.Ops)] {
			if len(op.Value) != i {
				t.Fatalf("transaction %d holds %+v", i, op)
			}
		}
	}
}

// P21.2: what Parse takes is right by layer 6.
func TestTakenIsRight(t *testing.T) {
	for _, text := range []string{head, head + " w(a)=x", head + " d(#)", head + " r(a)=-", head + strings.Repeat(" d(a)", 17)} {
		x, e := notation.Parse(text)
		if e == api.OK && record.Valid(x) != api.OK {
			t.Errorf("Parse(%q) = %+v, which is not right", text, x)
		}
	}
}
