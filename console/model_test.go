package console_test

import (
	"encoding/hex"
	"fmt"
	"regexp"
	"strings"
	"testing"

	"proctor/adya"
	"proctor/api"
	"proctor/checker"
	"proctor/config"
	"proctor/device"
	"proctor/halt"
	"proctor/logfile"
	"proctor/machine"
	"proctor/notation"
	"proctor/report"
)

// dice is a source of numbers that is the same in every run.
type dice uint64

func (d *dice) below(n int) int {
	*d = *d*6364136223846793005 + 1442695040888963407
	return int(uint64(*d) >> 33 % uint64(n))
}

func (d *dice) of(list ...string) string { return list[d.below(len(list))] }

// model keeps of a script's past no more than texts and the steps that were done; all else is made anew for each line.
type model struct {
	config   api.Config
	list     []string
	input    []byte
	machines int // how many were made
	sessions int
	flaw     int
	steps    []machine.Step
}

var (
	numberForm = regexp.MustCompile(`\A(0|[1-9][0-9]{0,14})\z`)
	plainForm  = regexp.MustCompile(`\A[a-z0-9]+\z`)
	hexForm    = regexp.MustCompile(`\A#([0-9a-f][0-9a-f])*\z`)
	// what stands behind each name: a number, a word
	forms = map[string]string{
		"drop": "", "raw": "w", "seal": "", "run": "", "until": "n", "machine": "nn",
		"begin": "nn", "commit": "nn", "abort": "nn", "read": "nnw", "delete": "nnw", "write": "nnww",
		"emit": "", "show": "", "deps": "", "phenomena": "", "serial": "",
	}
	kinds = map[string]int{
		"begin": machine.StepBegin, "commit": machine.StepCommit, "abort": machine.StepAbort,
		"read": machine.StepRead, "delete": machine.StepDelete, "write": machine.StepWrite,
	}
)

func failed(e api.Errno) string { return fmt.Sprintf("error %d\n", e) }

// cut goes over a text byte by byte.
func cut(text string, at byte) []string {
	pieces := []string{""}
	for i := range len(text) {
		if text[i] == at {
			pieces = append(pieces, "")
		} else {
			pieces[len(pieces)-1] += text[i : i+1]
		}
	}
	return pieces
}

func unword(w string) (string, bool) {
	if plainForm.MatchString(w) {
		return w, true
	}
	if !hexForm.MatchString(w) {
		return "", false
	}
	b, _ := hex.DecodeString(w[1:])
	return string(b), !plainForm.Match(b)
}

func word(s string) string {
	if plainForm.MatchString(s) {
		return s
	}
	return fmt.Sprintf("#%x", s)
}

func (m *model) line(line string) string {
	if line == "config" || strings.HasPrefix(line, "config ") {
		c, e := config.Parse(strings.TrimPrefix(strings.TrimPrefix(line, "config"), " "))
		if e != api.OK {
			return failed(e)
		}
		m.config = c
		return "ok\n"
	}
	if line == "txn" || strings.HasPrefix(line, "txn ") {
		return m.txn(strings.TrimPrefix(strings.TrimPrefix(line, "txn"), " "))
	}
	pieces := cut(line, ' ')
	form, known := forms[pieces[0]]
	if !known || len(pieces) != 1+len(form) {
		return failed(250)
	}
	var n []int
	var w []string
	for i, piece := range pieces[1:] {
		if form[i] == 'n' {
			var number int
			fmt.Sscan(piece, &number)
			n = append(n, number)
			if !numberForm.MatchString(piece) {
				return failed(210)
			}
			continue
		}
		bytes, ok := unword(piece)
		w = append(w, bytes)
		if !ok {
			return failed(210)
		}
	}
	return m.command(pieces[0], n, w)
}

func (m *model) txn(line string) string {
	if _, e := notation.Parse(line); e != api.OK {
		return failed(e)
	}
	m.list = append(m.list, line)
	return fmt.Sprintln("ok", len(m.list))
}

func (m *model) command(name string, n []int, w []string) string {
	switch name {
	case "drop":
		m.list = nil
		return "ok\n"
	case "raw":
		if len(w[0]) > 65536 {
			return failed(31)
		}
		m.input = []byte(w[0])
		return fmt.Sprintln("ok", len(w[0]))
	case "seal":
		m.input, _, _ = logfile.Encode(m.txns())
		return fmt.Sprintln("ok", len(m.input))
	case "run", "until":
		return m.check(n)
	case "machine":
		if n[0] < 1 || n[0] > 64 {
			return failed(150)
		}
		if n[1] > 4 {
			return failed(158)
		}
		m.machines++
		m.sessions, m.flaw, m.steps = n[0], n[1], nil
		return "ok\n"
	case "emit":
		return m.emit()
	case "show":
		return strings.Join(append(m.list, ""), "\n") + fmt.Sprintln("ok", len(m.list))
	case "deps", "phenomena", "serial":
		return m.look(name)
	}
	return m.step(name, n, append(w, "", ""))
}

func (m *model) txns() []api.Txn {
	list, _, _ := notation.ParseLog(strings.Join(append(m.list, ""), "\n"))
	return list
}

// check has a device with blocks of another size: the outcome doesn't hang on it.
func (m *model) check(n []int) string {
	d, _ := device.New(device.Geometry{Block: 512, Scratch: 256}, m.input, nil, nil)
	if n == nil {
		text, _ := report.Render(checker.Run(m.config, d))
		return text
	}
	if n[0] > 1<<40 {
		return failed(10)
	}
	stop, _ := halt.New(n[0])
	text, _ := report.Render(checker.RunUntil(m.config, d, stop))
	return text
}

// replayed is a new machine that has done the steps that were done.
func (m *model) replayed() *machine.Machine {
	x, _ := machine.New(m.sessions, m.flaw)
	for _, s := range m.steps {
		x.Do(s)
	}
	return x
}

func (m *model) emit() string {
	if m.machines == 0 {
		return failed(251)
	}
	lines, _, _ := notation.PrintLog(m.replayed().Log())
	m.list = cut(lines, '\n')
	m.list = m.list[:len(m.list)-1]
	return fmt.Sprintln("ok", len(m.list))
}

func (m *model) step(name string, n []int, w []string) string {
	if m.machines == 0 {
		return failed(251)
	}
	s := machine.Step{Kind: kinds[name], Session: n[0], Gap: n[1]}
	if name == "read" || name == "delete" || name == "write" {
		s.Key = w[0]
	}
	if name == "write" {
		s.Value = w[1]
	}
	a, e := m.replayed().Do(s)
	if e != api.OK {
		return failed(e)
	}
	m.steps = append(m.steps, s)
	switch {
	case name == "commit":
		return "ok " + []string{"abort", "commit"}[a.Status] + "\n"
	case name == "read" && a.Found:
		return "ok " + word(a.Value) + "\n"
	case name == "read":
		return "ok -\n"
	}
	return "ok\n"
}

func (m *model) look(name string) string {
	if len(m.list) > 256 {
		return failed(200)
	}
	list := m.txns()
	deps, _ := adya.Deps(list)
	phenomena, _ := adya.Phenomena(list)
	places, ok, _ := adya.Serial(list)
	switch {
	case name == "deps":
		text := ""
		for _, d := range deps {
			text += fmt.Sprintln([]string{"", "ww", "wr", "rw"}[d.Kind], d.From, d.To, word(d.Key))
		}
		return text + fmt.Sprintln("ok", len(deps))
	case name == "phenomena":
		return "ok" + spaced(phenomena) + "\n"
	case ok:
		return "ok" + spaced(places) + "\n"
	}
	return "none\n"
}

func spaced(numbers []int) string {
	text := ""
	for _, n := range numbers {
		text += fmt.Sprint(" ", n)
	}
	return text
}

// answer is a whole script's.
func (m *model) answer(script string) string {
	lines := cut(script, '\n')
	if last := len(lines) - 1; lines[last] == "" {
		lines = lines[:last]
	}
	text := ""
	for _, line := range lines {
		if len(text) > 65536 {
			return text + failed(252)
		}
		text += m.line(line)
	}
	return text
}

// line is one that a script may have, mostly right.
func (d *dice) line() string {
	session := d.of("0", "0", "1", "1", "2", "3")
	gap := d.of("0", "0", "0", "1", "7", "1000", "1001")
	key := d.of("a", "b", "b", "c", "#41", "#", "abcdefghi")
	value := d.of("x", "y", "#", "#2d", "0", "#00ff", "0123456789abcdefg")
	if d.below(12) > 0 {
		key, value = d.of("a", "b", "#41"), d.of("x", "y", "#", "#2d")
	}
	at := " " + session + " " + gap
	switch d.below(24) {
	case 0:
		return "config" + d.of("", " ", " eps=3", " limit=1", " limit=0 eps=1", " state=2", " fan=2 budget=1200", " fan=1", " eps=1 eps=1")
	case 1, 2:
		return "txn s" + session + d.of(" q0 t1-4", " q1 t3-7", " q0 t5-9", " q2 t9-9") + d.of(" c0-9", " c1-4", " c6-7") +
			d.of(" commit", " abort", " commit") + d.of("", " r("+key+")=-", " w("+key+")="+value) + d.of("", " r("+key+")="+value, " d("+key+")")
	case 3:
		return d.of("drop", "raw #", "raw #50524f010000", "raw #50524f01"+d.of("0001", "00", "0101"), "seal", "show", "emit")
	case 4:
		return "machine " + d.of("1", "2", "3", "4", "64", "65") + " " + d.of("0", "1", "2", "3", "4", "5")
	case 5:
		return "until " + d.of("0", "1", "3", "8", "40", "1099511627776", "1099511627777")
	case 6:
		return d.of("seal", "run", "show")
	case 7:
		return d.of("deps", "phenomena", "serial",
			"txn s0 q0 t1-5 c1-5 commit r(a)=- w(b)=x\ntxn s1 q0 t2-6 c2-6 commit r(b)=- w(a)=y\nserial")
	case 8, 9:
		return d.of("emit", "seal", "run")
	case 10, 11, 12:
		return "begin" + at
	case 13, 14, 15:
		return "commit" + at
	case 16:
		return "abort" + at
	case 17, 18, 19:
		return "read" + at + " " + key
	case 20:
		return "delete" + at + " " + key
	}
	return "write" + at + " " + key + " " + value
}

// spoilt changes a line a little.
func (d *dice) spoilt(line string) string {
	at := d.below(len(line) + 1)
	piece := d.of(" ", " ", "0", "a", "#", "A", "\n", "\r", "=")
	switch d.below(3) {
	case 0:
		return line[:at] + piece + line[at:]
	case 1:
		return line[:at]
	}
	return line[:at] + piece + line[min(len(line), at+1):]
}

func TestModel(t *testing.T) {
	d := dice(25)
	heads := map[string]int{}
	for range 200 {
		var lines []string
		if d.below(4) > 0 {
			lines = append(lines, "machine "+d.of("1", "2", "3")+" "+d.of("0", "1", "2", "3", "4"))
		}
		for range d.below(120) {
			line := d.line()
			if d.below(20) == 0 {
				line = d.spoilt(line)
			}
			lines = append(lines, line)
		}
		text := strings.Join(lines, "\n")
		if d.below(2) == 0 {
			text += "\n"
		}
		m := &model{config: api.Config{Budget: 4096, Fan: 8, State: 1 << 20, Limit: 100}}
		want := m.answer(text)
		for _, line := range cut(want, '\n') {
			heads[line]++
		}
		answers(t, text, want)
	}
	for _, head := range []string{
		"ok", "ok -", "ok x", "ok #", "ok #2d", "ok commit", "ok abort", "none", "ok 5 6", "error 250", "error 210", "error 251", "error 230", "error 110",
		"error 10", "error 64", "error 130", "error 150", "error 152", "error 153", "error 155", "error 156", "error 157", "error 158",
		"outcome accept", "outcome reject", "outcome malformed", "outcome state", "outcome cancelled",
	} {
		if heads[head] == 0 {
			t.Errorf("no line is answered with %q", head)
		}
	}
}
