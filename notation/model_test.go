package notation_test

import (
	"encoding/hex"
	"fmt"
	"regexp"
	"strconv"
	"strings"
	"testing"

	"proctor/api"
	"proctor/record"
)

// dice is a source of numbers that is the same in every run.
type dice uint64

func (d *dice) below(n int) int {
	*d = *d*6364136223846793005 + 1442695040888963407
	return int(uint64(*d) >> 33 % uint64(n))
}

// text has bytes that can stand as they are, others, or both.
func (d *dice) text(most int) string {
	alphabet := []string{"abz059", "abz059", "az09AZ#-()= \n\x00\xff\xc3\xa9"}[d.below(3)]
	b := make([]byte, d.below(most+1))
	for i := range b {
		b[i] = alphabet[d.below(len(alphabet))]
	}
	return string(b)
}

// number is mostly from 0 to most, of any size.
func (d *dice) number(most int) int {
	if d.below(60) == 0 {
		return most + 1 + d.below(2)
	}
	return (d.below(1<<30)<<20 + d.below(1<<20)) >> d.below(50) % (most + 1)
}

// op has a line, and is mostly right.
func (d *dice) op() api.Op {
	op := api.Op{Kind: 1 + d.below(3), Key: "k" + d.text(api.MaxKey-1)}
	if d.below(60) == 0 {
		op.Key = d.text(2 * api.MaxKey)
	}
	if op.Kind == api.OpWrite || op.Kind == api.OpRead && d.below(2) == 0 {
		op.Found, op.Value = true, d.text(api.MaxValue)
		if d.below(60) == 0 {
			op.Value = d.text(2 * api.MaxValue)
		}
	}
	return op
}

// txn has a line, and is mostly right.
func (d *dice) txn() api.Txn {
	x := api.Txn{
		Session: d.number(api.MaxId), Seq: d.number(api.MaxId),
		Start: d.number(api.MaxTime), End: d.number(api.MaxTime),
		Invoke: d.number(api.MaxTime), Return: d.number(api.MaxTime),
		Status: d.below(2),
	}
	for range []int{0, 1, 2, 3, 5, 8, 15, 16, 17, 18}[d.below(10)] {
		x.Ops = append(x.Ops, d.op())
	}
	return x
}

// spoilt changes a text a little, mostly by bytes that lines are made of.
func (d *dice) spoilt(s string) string {
	for range d.below(3) {
		const parts = "srqtwdc0019afgz#()=-- \n\x00\xff"
		at := d.below(len(s) + 1)
		piece := string(parts[d.below(len(parts))])
		switch kind := d.below(6); {
		case kind == 0:
			s = s[:at]
		case kind == 1:
			s = s[at:]
		case kind == 2:
			s = s[:at] + piece + s[at:]
		case at == len(s):
		case kind == 3:
			s = s[:at] + s[at+1:]
		case kind == 4:
			s = s[:at] + s[at:at+1] + s[at:]
		default:
			s = s[:at] + piece + s[at+1:]
		}
	}
	return s
}

// modelWord says the word byte by byte.
func modelWord(s string) string {
	if plainForm.MatchString(s) {
		return s
	}
	return "#" + hex.EncodeToString([]byte(s))
}

// modelUnword finds the bytes as the only ones whose word is w.
func modelUnword(w string) (string, bool) {
	if digits, ok := strings.CutPrefix(w, "#"); ok {
		b, _ := hex.DecodeString(digits)
		return string(b), modelWord(string(b)) == w
	}
	return w, modelWord(w) == w
}

func modelOp(op api.Op) string {
	value := "-"
	if op.Found {
		value = modelWord(op.Value)
	}
	switch op.Kind {
	case api.OpRead:
		return " r(" + modelWord(op.Key) + ")=" + value
	case api.OpWrite:
		return " w(" + modelWord(op.Key) + ")=" + value
	}
	return " d(" + modelWord(op.Key) + ")"
}

func modelLine(x api.Txn) string {
	s := fmt.Sprintf("s%d q%d t%d-%d c%d-%d %s", x.Session, x.Seq, x.Start, x.End, x.Invoke, x.Return, []string{"abort", "commit"}[x.Status])
	for _, op := range x.Ops {
		s += modelOp(op)
	}
	return s
}

const (
	numberForm = `(0|[1-9][0-9]{0,14})`
	wordForm   = `([a-z0-9]+|#(?:[0-9a-f]{2})*)`
)

var (
	plainForm = regexp.MustCompile(`\A[a-z0-9]+\z`)
	lineForm  = regexp.MustCompile(`\As` + numberForm + ` q` + numberForm + ` t` + numberForm + `-` + numberForm + ` c` + numberForm + `-` + numberForm + ` (commit|abort)((?s: .*)?)\z`)
	opForm    = regexp.MustCompile(`\A(?:(r|w)\(` + wordForm + `\)=(?:(-)|` + wordForm + `)|(d)\(` + wordForm + `\))\z`)
)

func modelReadOp(s string) (api.Op, bool) {
	m := opForm.FindStringSubmatch(s)
	if m == nil || m[1] == "w" && m[3] == "-" {
		return api.Op{}, false
	}
	key, ok := modelUnword(m[2] + m[6])
	op := api.Op{Kind: api.OpDelete, Key: key}
	if m[5] == "d" {
		return op, ok
	}
	op.Kind = map[string]int{"r": api.OpRead, "w": api.OpWrite}[m[1]]
	if m[3] == "" {
		value, right := modelUnword(m[4])
		op.Found, op.Value, ok = true, value, ok && right
	}
	return op, ok
}

// modelParse holds the line against the form as a whole.
func modelParse(line string) (api.Txn, api.Errno) {
	m := lineForm.FindStringSubmatch(line)
	if m == nil {
		return api.Txn{}, api.ErrText
	}
	var n [6]int
	for i := range n {
		n[i], _ = strconv.Atoi(m[1+i])
	}
	x := api.Txn{Session: n[0], Seq: n[1], Start: n[2], End: n[3], Invoke: n[4], Return: n[5]}
	if m[7] == "commit" {
		x.Status = api.Committed
	}
	for _, s := range strings.Split(m[8], " ")[1:] {
		op, ok := modelReadOp(s)
		if !ok {
			return api.Txn{}, api.ErrText
		}
		x.Ops = append(x.Ops, op)
	}
	if m[8] == "" {
		x.Ops = nil
	}
	if e := record.Valid(x); e != api.OK {
		return api.Txn{}, e
	}
	return x, api.OK
}

// modelParseLog looks at the lines from the first on.
func modelParseLog(text string) ([]api.Txn, int, api.Errno) {
	lines := strings.SplitAfter(text, "\n")
	if lines[len(lines)-1] == "" {
		lines = lines[:len(lines)-1]
	}
	var list []api.Txn
	for i, s := range lines {
		line, ended := strings.CutSuffix(s, "\n")
		x, e := modelParse(line)
		switch {
		case i >= 4096:
			return nil, i, api.ErrTxns
		case !ended:
			return nil, i, api.ErrText
		case e != api.OK:
			return nil, i, e
		}
		list = append(list, x)
	}
	return list, 0, api.OK
}

func often(t *testing.T, seen map[api.Errno]int, least int, all ...api.Errno) {
	t.Helper()
	for _, e := range all {
		if seen[e] < least {
			t.Errorf("answer %d was seen %d times only", e, seen[e])
		}
	}
}

// P21.1: words both ways, and texts that are nearly words.
func TestModelWords(t *testing.T) {
	d := dice(21)
	seen := map[api.Errno]int{}
	for range 50000 {
		s := d.text(6)
		word(t, s, modelWord(s))
		w := d.spoilt(modelWord(s))
		if want, ok := modelUnword(w); ok {
			seen[api.OK]++
			word(t, want, w)
		} else {
			seen[api.ErrText]++
			noWord(t, w)
		}
		if t.Failed() {
			t.FailNow()
		}
	}
	often(t, seen, 5000, api.OK, api.ErrText)
}

// P21.1: numbers, and texts that are nearly numbers.
func TestModelNumbers(t *testing.T) {
	d := dice(211)
	form := regexp.MustCompile(`\A` + numberForm + `\z`)
	seen := map[api.Errno]int{}
	for range 50000 {
		w := d.spoilt(strconv.Itoa(d.below(1<<30) << d.below(33) >> d.below(63)))
		n, err := strconv.Atoi(w)
		if form.MatchString(w) && err == nil {
			seen[api.OK]++
			number(t, w, n)
		} else {
			seen[api.ErrText]++
			noNumber(t, w)
		}
		if t.Failed() {
			t.FailNow()
		}
	}
	often(t, seen, 5000, api.OK, api.ErrText)
}

// P21.2: lines of all that can be written, right or not.
func TestModelPrint(t *testing.T) {
	d := dice(212)
	seen := map[api.Errno]int{}
	for range 20000 {
		x := d.txn()
		want := record.Valid(x)
		seen[want]++
		if want == api.OK {
			line(t, x, modelLine(x))
		} else {
			noPrint(t, x, want)
			noParse(t, modelLine(x), want)
		}
		if t.Failed() {
			t.FailNow()
		}
	}
	often(t, seen, 500, api.OK, api.ErrField, api.ErrOps, api.ErrOp)
}

// P21.2: lines that are nearly right; one that is taken is Print's.
func TestModelParse(t *testing.T) {
	d := dice(213)
	seen := map[api.Errno]int{}
	for range 40000 {
		text := d.spoilt(modelLine(d.txn()))
		want, e := modelParse(text)
		seen[e]++
		if e == api.OK {
			line(t, want, text)
		} else {
			noParse(t, text, e)
		}
		if t.Failed() {
			t.FailNow()
		}
	}
	often(t, seen, 500, api.OK, api.ErrText, api.ErrField, api.ErrOps, api.ErrOp)
}

// P21.3: logs, and texts that are nearly logs.
func TestModelLogs(t *testing.T) {
	d := dice(214)
	seen := map[api.Errno]int{}
	for range 10000 {
		text := ""
		for range d.below(8) {
			text += modelLine(d.txn()) + "\n"
		}
		if d.below(2) == 0 {
			text = d.spoilt(text)
		}
		want, at, e := modelParseLog(text)
		seen[e]++
		if e == api.OK {
			log(t, want, text)
		} else {
			noParseLog(t, text, at, e)
		}
		if t.Failed() {
			t.FailNow()
		}
	}
	often(t, seen, 500, api.OK, api.ErrText, api.ErrField, api.ErrOps, api.ErrOp)
}
