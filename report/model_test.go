package report_test

import (
	"encoding/hex"
	"fmt"
	"regexp"
	"slices"
	"strconv"
	"strings"
	"testing"

	"proctor/api"
	"proctor/report"
	"proctor/viol"
)

// dice is a source of numbers that is the same in every run.
type dice uint64

func (d *dice) below(n int) int {
	*d = *d*6364136223846793005 + 1442695040888963407
	return int(uint64(*d) >> 33 % uint64(n))
}

// text has bytes that can stand as they are, others, or both.
func (d *dice) text(most int) string {
	alphabet := []string{"abz059", "az09AZ#- \n\x00\xff\xc3\xa9"}[d.below(2)]
	b := make([]byte, d.below(most+1))
	for i := range b {
		b[i] = alphabet[d.below(len(alphabet))]
	}
	return string(b)
}

// number is mostly from 0 to most, of any size.
func (d *dice) number(most int) int {
	if d.below(80) == 0 {
		return most + 1 + d.below(2)
	}
	return (d.below(1<<30)<<20 + d.below(1<<20)) >> d.below(50) % (most + 1)
}

// viol has a line, and is mostly right; small numbers make many alike in the
// order.
func (d *dice) viol() api.Viol {
	v := api.Viol{
		Kind: 1 + d.below(10), Time: d.below(4), Txn: d.below(3), Op: d.below(3) - 1, Witness: d.number(api.MaxTxns) - 1,
		Key: d.text(api.MaxKey), From: d.number(api.MaxTime), To: d.number(api.MaxTime),
	}
	if d.below(4) == 0 {
		v.Time, v.Txn, v.Op = d.number(api.MaxTime), d.number(api.MaxTxns-1), d.number(api.MaxOps)-1
	}
	if d.below(2) == 0 {
		v.Want, v.Expected = true, d.text(api.MaxValue)
	}
	if d.below(2) == 0 {
		v.Got, v.Observed = true, d.text(api.MaxValue)
	}
	switch d.below(200) {
	case 0:
		v.Key = d.text(2 * api.MaxKey)
	case 1:
		v.Got, v.Observed = true, d.text(2*api.MaxValue)
	}
	return v
}

// outcome has a text, and is mostly right.
func (d *dice) outcome() api.Outcome {
	o := api.Outcome{Kind: 1 + d.below(9)}
	if d.below(2) == 0 {
		o.Kind = api.OutReject
	}
	if o.Kind <= api.OutIO {
		o.Code = api.Errno(d.number(999))
	}
	if o.Kind == api.OutMalformed {
		o.Offset = d.number(api.MaxInput)
	}
	if o.Kind >= api.OutAccept {
		o.Txns = d.number(api.MaxTxns)
	}
	if o.Kind == api.OutReject {
		for range d.below(5) {
			o.List = append(o.List, d.viol())
		}
		if d.below(6) > 0 {
			o.List = viol.Sort(o.List)
		}
		o.Total = len(o.List) + d.below(5)
		if d.below(6) == 0 {
			o.Total = d.number(api.MaxTime)
		}
	}
	return o
}

// spoilt changes a text a little, mostly by bytes that texts are made of.
func (d *dice) spoilt(s string) string {
	for range d.below(3) {
		const parts = "0019afgz#-- \n\n\x00\xff"
		at := d.below(len(s) + 1)
		piece := string(parts[d.below(len(parts))])
		switch kind := d.below(8); {
		case kind == 0:
			s = s[:at]
		case kind == 1:
			s = s[:at] + piece + s[at:]
		case kind == 2:
			s = d.lines(s)
		case at == len(s):
		case kind == 3:
			s = s[:at] + s[at+1:]
		case kind == 4:
			s = s[:at] + s[at:at+1] + s[at:]
		case kind == 5 && s[at] >= '0' && s[at] <= '9':
			s = s[:at] + strconv.Itoa(d.below(30)) + s[at+1:]
		default:
			s = s[:at] + piece + s[at+1:]
		}
	}
	return s
}

// lines drops a line, doubles one, or swaps two.
func (d *dice) lines(s string) string {
	list := strings.SplitAfter(s, "\n")
	i, j := d.below(len(list)), d.below(len(list))
	switch d.below(3) {
	case 0:
		list = slices.Delete(list, i, i+1)
	case 1:
		list = slices.Insert(list, i, list[i])
	default:
		list[i], list[j] = list[j], list[i]
	}
	return strings.Join(list, "")
}

func modelWord(there bool, s string) string {
	switch {
	case !there:
		return "-"
	case regexp.MustCompile(`\A[a-z0-9]+\z`).MatchString(s):
		return s
	}
	return "#" + hex.EncodeToString([]byte(s))
}

func modelUnword(w string) (bool, string, bool) {
	s := w
	if digits, ok := strings.CutPrefix(w, "#"); ok {
		b, _ := hex.DecodeString(digits)
		s = string(b)
	}
	if w == "-" {
		return false, "", true
	}
	return true, s, modelWord(true, s) == w
}

var (
	modelKinds = strings.Fields("none config malformed io crash nospace state cancelled accept reject")
	modelViols = strings.Fields("none inverted client early late twin internal snapshot conflict repeat session")
)

func modelPlace(n int) string {
	if n == -1 {
		return "-"
	}
	return strconv.Itoa(n)
}

func modelLine(v api.Viol) string {
	return fmt.Sprintf("%s time %d txn %d op %s witness %s key %s want %s got %s from %d to %d\n", modelViols[v.Kind], v.Time, v.Txn, modelPlace(v.Op), modelPlace(v.Witness),
		modelWord(true, v.Key), modelWord(v.Want, v.Expected), modelWord(v.Got, v.Observed), v.From, v.To)
}

// modelRender writes whatever has a kind, right or not.
func modelRender(o api.Outcome) string {
	s := "proctor 1\noutcome " + modelKinds[o.Kind] + "\n"
	switch o.Kind {
	case api.OutConfig, api.OutIO:
		s += fmt.Sprintf("code %d\n", o.Code)
	case api.OutMalformed:
		s += fmt.Sprintf("code %d\noffset %d\n", o.Code, o.Offset)
	case api.OutAccept:
		s += fmt.Sprintf("txns %d\n", o.Txns)
	case api.OutReject:
		s += fmt.Sprintf("txns %d\ntotal %d\nshown %d\n", o.Txns, o.Total, len(o.List))
		for _, v := range o.List {
			s += modelLine(v)
		}
	}
	return s + "end\n"
}

// modelValid goes through the rules kind by kind.
func modelValid(o api.Outcome) bool {
	for i, v := range o.List {
		if !viol.Valid(v) || i > 0 && viol.Compare(o.List[i-1], v) > 0 {
			return false
		}
	}
	code := o.Code >= 1 && o.Code <= 999
	txns := o.Txns >= 0 && o.Txns <= 4096
	switch n := len(o.List); o.Kind {
	case api.OutConfig, api.OutIO:
		return code && o.Offset == 0 && o.Txns == 0 && o.Total == 0 && n == 0
	case api.OutMalformed:
		return code && o.Offset >= 0 && o.Offset <= 1<<22 && o.Txns == 0 && o.Total == 0 && n == 0
	case api.OutCrash, api.OutNoSpace, api.OutState, api.OutCancelled:
		return o.Code == 0 && o.Offset == 0 && o.Txns == 0 && o.Total == 0 && n == 0
	case api.OutAccept:
		return o.Code == 0 && o.Offset == 0 && txns && o.Total == 0 && n == 0
	case api.OutReject:
		return o.Code == 0 && o.Offset == 0 && txns && o.Total >= 1 && o.Total <= 1<<40 && n <= 10000 && n <= o.Total
	}
	return false
}

const (
	numberForm = `(0|[1-9][0-9]{0,14})`
	placeForm  = `(-|0|[1-9][0-9]{0,14})`
	wordForm   = `([a-z0-9]+|#(?:[0-9a-f]{2})*)`
	valueForm  = `(-|[a-z0-9]+|#(?:[0-9a-f]{2})*)`
)

var (
	textForm = regexp.MustCompile(`\Aproctor 1\noutcome (?:(config|io)\ncode ` + numberForm + `|(malformed)\ncode ` + numberForm + `\noffset ` + numberForm +
		`|(crash|nospace|state|cancelled)|(accept)\ntxns ` + numberForm + `|(reject)\ntxns ` + numberForm + `\ntotal ` + numberForm + `\nshown ` + numberForm + `((?:\n[^\n]*)*))\nend\n\z`)
	violForm = regexp.MustCompile(`\A(inverted|client|early|late|twin|internal|snapshot|conflict|repeat|session) time ` + numberForm + ` txn ` + numberForm + ` op ` + placeForm + ` witness ` + placeForm +
		` key ` + wordForm + ` want ` + valueForm + ` got ` + valueForm + ` from ` + numberForm + ` to ` + numberForm + `\z`)
)

func number(s string) int {
	if s == "-" {
		return -1
	}
	n, _ := strconv.Atoi(s)
	return n
}

func modelReadViol(line string) (api.Viol, bool) {
	m := violForm.FindStringSubmatch(line)
	if m == nil {
		return api.Viol{}, false
	}
	v := api.Viol{Kind: slices.Index(modelViols, m[1]), Time: number(m[2]), Txn: number(m[3]), Op: number(m[4]), Witness: number(m[5]), From: number(m[9]), To: number(m[10])}
	var a, b, c bool
	_, v.Key, a = modelUnword(m[6])
	v.Want, v.Expected, b = modelUnword(m[7])
	v.Got, v.Observed, c = modelUnword(m[8])
	return v, a && b && c
}

// modelParse holds the text against the form as a whole.
func modelParse(s string) (api.Outcome, bool) {
	m := textForm.FindStringSubmatch(s)
	if m == nil {
		return api.Outcome{}, false
	}
	o := api.Outcome{
		Kind: slices.Index(modelKinds, m[1]+m[3]+m[6]+m[7]+m[9]), Code: api.Errno(number(m[2] + m[4])), Offset: number(m[5]),
		Txns: number(m[8] + m[10]), Total: number(m[11]),
	}
	for _, line := range strings.Split(m[13], "\n")[1:] {
		v, ok := modelReadViol(line)
		if !ok {
			return api.Outcome{}, false
		}
		o.List = append(o.List, v)
	}
	if len(o.List) != number(m[12]) || !modelValid(o) {
		return api.Outcome{}, false
	}
	return o, true
}

func seenOften(t *testing.T, seen map[int]int, least int) {
	t.Helper()
	for kind := range 10 {
		if seen[kind] < least {
			t.Errorf("outcomes of kind %d (0: refused) were seen %d times only", kind, seen[kind])
		}
	}
}

// P22.1 and P22.2: the text of all that can be written, right or not.
func TestModelRender(t *testing.T) {
	d := dice(22)
	seen := map[int]int{}
	for range 20000 {
		o := d.outcome()
		if modelValid(o) {
			seen[o.Kind]++
			text(t, o, modelRender(o))
		} else {
			seen[0]++
			wrong(t, o)
			noText(t, modelRender(o))
		}
		if t.Failed() {
			t.FailNow()
		}
	}
	seenOften(t, seen, 500)
}

// P22.2: texts that are nearly right; one that is taken is Render's.
func TestModelParse(t *testing.T) {
	d := dice(222)
	seen := map[int]int{}
	for range 40000 {
		s := d.spoilt(modelRender(d.outcome()))
		if want, ok := modelParse(s); ok {
			seen[want.Kind]++
			text(t, want, s)
		} else {
			seen[0]++
			noText(t, s)
		}
		if t.Failed() {
			t.FailNow()
		}
	}
	seenOften(t, seen, 500)
}

// P22.1: outcomes with fields of other kinds, which have no text.
func TestModelValid(t *testing.T) {
	d := dice(221)
	seen := map[bool]int{}
	for range 20000 {
		o, p := d.outcome(), d.outcome()
		for _, mix := range []func(){
			func() { o.Kind = p.Kind }, func() { o.Code = p.Code }, func() { o.Offset = p.Offset },
			func() { o.Txns = p.Txns }, func() { o.Total = p.Total }, func() { o.List = p.List },
		} {
			if d.below(6) == 0 {
				mix()
			}
		}
		want := modelValid(o)
		seen[want]++
		if got := report.Valid(o); got != want {
			t.Fatalf("Valid(%+v) = %v", o, got)
		}
		if !want {
			wrong(t, o)
		}
	}
	if seen[true] < 5000 || seen[false] < 5000 {
		t.Errorf("seen: %v", seen)
	}
}
