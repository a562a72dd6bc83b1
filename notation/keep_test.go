package notation

import (
	"strings"
	"testing"
	"unsafe"

	"proctor/api"
)

// However long a line is, no more of it is held than tells that it is too long.
func TestHeld(t *testing.T) {
	for n, want := range map[int]int{0: 0, 16: 16, 17: 17, 18: 17, 100000: 17} {
		x, ok := readTxn("s1 q0 t5-9 c5-9 commit" + strings.Repeat(" d(a)", n))
		if !ok || len(x.Ops) != want {
			t.Errorf("%d operations: %v, %d held", n, ok, len(x.Ops))
		}
	}
}

// within tells whether a piece lies in the memory of a text.
func within(piece, text string) bool {
	at := uintptr(unsafe.Pointer(unsafe.StringData(piece)))
	from := uintptr(unsafe.Pointer(unsafe.StringData(text)))
	return from <= at && at < from+uintptr(len(text))
}

// What is answered is new memory: a short key keeps no long text.
func TestApart(t *testing.T) {
	text := strings.Repeat("s1 q0 t5-9 c5-9 commit w(a)=x r(#41)=#42 d(b)\n", 3)
	list, _, e := ParseLog(text)
	if e != api.OK || len(list) != 3 {
		t.Fatalf("%v, %d", list, e)
	}
	for _, x := range list {
		for _, op := range x.Ops {
			if within(op.Key, text) || within(op.Value, text) {
				t.Errorf("%+v lies in the text", op)
			}
		}
	}
	bytes := strings.Repeat("ab", 5)
	if w := Word(bytes); w != bytes || within(w, bytes) {
		t.Errorf("Word answers what it was given")
	}
	if s, _ := Unword(bytes); s != bytes || within(s, bytes) {
		t.Errorf("Unword answers what it was given")
	}
}
