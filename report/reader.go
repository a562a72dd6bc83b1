package report

import (
	"strings"

	"proctor/api"
	"proctor/notation"
)

const blank = " "

// Parse reads an outcome.
func Parse(text string) (api.Outcome, api.Errno) {
	r := &reader{rest: text}
	o := r.outcome()
	if r.failed || r.rest != "" || !Valid(o) {
		return api.Outcome{}, api.ErrReport
	}
	return o, api.OK
}

// reader eats a text from its front. Once something else stood there than was
// asked for it has failed, and stays so: whoever reads asks at the end alone.
type reader struct {
	rest   string
	failed bool
}

func (r *reader) outcome() api.Outcome {
	var o api.Outcome
	r.must(headText)
	o.Kind = r.outcomeKind()
	if hasCode(o.Kind) {
		o.Code = api.Errno(r.number("code ", lineEnd))
	}
	if hasOffset(o.Kind) {
		o.Offset = r.number("offset ", lineEnd)
	}
	if hasTxns(o.Kind) {
		o.Txns = r.number("txns ", lineEnd)
	}
	if hasList(o.Kind) {
		o.Total = r.number("total ", lineEnd)
		o.List = r.viols(r.number("shown ", lineEnd))
	}
	r.must(footText)
	return o
}

func (r *reader) outcomeKind() int {
	word := r.until(lineEnd)
	for i, w := range outcomeWords {
		if w == word {
			return i + 1
		}
	}
	r.failed = true
	return 0
}

func (r *reader) violKind() int {
	word := r.until(blank)
	for i, w := range violWords {
		if w == word {
			return i + 1
		}
	}
	r.failed = true
	return 0
}

func (r *reader) viols(shown int) []api.Viol {
	if shown > api.MaxList {
		// What no right outcome has needn't be held to be told.
		r.failed = true
	}
	var list []api.Viol
	for len(list) < shown && !r.failed {
		list = append(list, r.viol())
	}
	return list
}

func (r *reader) viol() api.Viol {
	var v api.Viol
	v.Kind = r.violKind()
	v.Time = r.number("time ", blank)
	v.Txn = r.number("txn ", blank)
	v.Op = r.place("op ")
	v.Witness = r.place("witness ")
	v.Key = r.word("key ")
	v.Want, v.Expected = r.value("want ")
	v.Got, v.Observed = r.value("got ")
	v.From = r.number("from ", blank)
	v.To = r.number("to ", lineEnd)
	return v
}

// number reads a number that stands between two texts.
func (r *reader) number(name, end string) int {
	r.must(name)
	n, e := notation.Number(r.until(end))
	r.failed = r.failed || e != api.OK
	return n
}

// place reads a number that is -1 where there is none.
func (r *reader) place(name string) int {
	if r.skip(name + nothing + blank) {
		return -1
	}
	return r.number(name, blank)
}

func (r *reader) value(name string) (bool, string) {
	if r.skip(name + nothing + blank) {
		return false, ""
	}
	return true, r.word(name)
}

func (r *reader) word(name string) string {
	r.must(name)
	s, e := notation.Unword(r.until(blank))
	r.failed = r.failed || e != api.OK
	return s
}

// until takes what stands ahead of a text, and that text. A reader that has
// failed looks no further: its rest may be long.
func (r *reader) until(end string) string {
	if r.failed {
		return ""
	}
	piece, rest, ok := strings.Cut(r.rest, end)
	r.rest, r.failed = rest, !ok
	return piece
}

func (r *reader) must(text string) {
	if !r.skip(text) {
		r.failed = true
	}
}

func (r *reader) skip(text string) bool {
	rest, ok := strings.CutPrefix(r.rest, text)
	r.rest = rest
	return ok
}
