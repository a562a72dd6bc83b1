package notation

import (
	"strings"

	"proctor/api"
)

// reader eats a line from its front. Once something else stood there than was
// asked for it has failed, and stays so: whoever reads asks at the end alone.
type reader struct {
	rest   string
	failed bool
}

func readTxn(line string) (api.Txn, bool) {
	r := &reader{rest: line}
	var t api.Txn
	t.Session = r.number("s")
	t.Seq = r.number(" q")
	t.Start = r.number(" t")
	t.End = r.number("-")
	t.Invoke = r.number(" c")
	t.Return = r.number("-")
	r.must(" ")
	t.Status = r.status()
	for r.rest != "" && !r.failed {
		op := r.op()
		// One too many is enough to be told by the rules of a transaction; a
		// long line needn't be held whole.
		if len(t.Ops) <= api.MaxOps {
			t.Ops = append(t.Ops, op)
		}
	}
	return t, !r.failed
}

func (r *reader) status() int {
	if r.skip(commitWord) {
		return api.Committed
	}
	r.must(abortWord)
	return api.Aborted
}

func (r *reader) op() api.Op {
	r.must(" ")
	switch {
	case r.skip("r("):
		op := api.Op{Kind: api.OpRead, Key: r.word()}
		r.must(")=")
		if !r.skip(foundNone) {
			op.Found, op.Value = true, r.word()
		}
		return op
	case r.skip("w("):
		op := api.Op{Kind: api.OpWrite, Key: r.word(), Found: true}
		r.must(")=")
		op.Value = r.word()
		return op
	}
	r.must("d(")
	op := api.Op{Kind: api.OpDelete, Key: r.word()}
	r.must(")")
	return op
}

// number reads a number behind the text that must stand ahead of it.
func (r *reader) number(ahead string) int {
	r.must(ahead)
	n, e := Number(r.take(digitsAhead(r.rest)))
	r.failed = r.failed || e != api.OK
	return n
}

func (r *reader) word() string {
	s, e := Unword(r.take(wordAhead(r.rest)))
	r.failed = r.failed || e != api.OK
	return s
}

// wordAhead is how many bytes stand ahead of the first that is in no word.
func wordAhead(s string) int {
	n := 0
	for n < len(s) && (s[n] == hexMark || plainRune(rune(s[n]))) {
		n++
	}
	return n
}

func (r *reader) take(n int) string {
	piece := r.rest[:n]
	r.rest = r.rest[n:]
	return piece
}

func (r *reader) must(text string) {
	if !r.skip(text) {
		r.failed = true
	}
}

func (r *reader) skip(text string) bool {
	rest, ok := strings.CutPrefix(r.rest, text)
	r.rest = rest
	return ok
}
