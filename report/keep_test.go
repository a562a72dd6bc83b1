package report

import (
	"strings"
	"testing"
	"unsafe"

	"proctor/api"
)

// inside tells whether a piece lies in the memory of a text.
func inside(piece, text string) bool {
	at := uintptr(unsafe.Pointer(unsafe.StringData(piece)))
	from := uintptr(unsafe.Pointer(unsafe.StringData(text)))
	return from <= at && at < from+uintptr(len(text))
}

// What is answered is new memory: a short key keeps no long text.
func TestApart(t *testing.T) {
	line := "internal time 0 txn 0 op 0 witness 0 key abc want def got #4142 from 0 to 0\n"
	text := strings.Clone("proctor 1\noutcome reject\ntxns 1\ntotal 2\nshown 2\n" + line + line + "end\n")
	o, e := Parse(text)
	if e != api.OK || len(o.List) != 2 {
		t.Fatalf("%+v, %d", o, e)
	}
	for _, v := range o.List {
		if inside(v.Key, text) || inside(v.Expected, text) || inside(v.Observed, text) {
			t.Errorf("%+v lies in the text", v)
		}
	}
}

// However many violations a text says that it shows, none is read where no
// right outcome has so many.
func TestHeld(t *testing.T) {
	line := "inverted time 0 txn 0 op 0 witness 0 key # want - got - from 0 to 0\n"
	for shown, want := range map[int]int{0: 0, 1: 1, 10000: 10000, 10001: 0, 999999999999999: 0} {
		r := &reader{rest: strings.Repeat(line, 10002)}
		if list := r.viols(shown); len(list) != want || r.failed != (shown > 10000) {
			t.Errorf("%d shown: %d held, failed %v", shown, len(list), r.failed)
		}
	}
	r := &reader{rest: line + "end\n"}
	if list := r.viols(10000); len(list) > 2 || !r.failed {
		t.Errorf("%d held, failed %v", len(list), r.failed)
	}
}
