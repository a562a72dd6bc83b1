package viol

import (
	"testing"

	"proctor/api"
)

// P18.3: no more than the first violations are held, and asking for them holds
// nothing.
func TestHeld(t *testing.T) {
	for _, limit := range []int{0, 1, 7} {
		top, _ := New(limit)
		for i := range 50 {
			if e := top.Put(api.Viol{Kind: 1, Time: i * 7 % 50}); e != api.OK {
				t.Fatalf("Put = %d", e)
			}
			top.List()
			if len(top.held) != min(limit, i+1) {
				t.Fatalf("limit %d: %d are held behind %d", limit, len(top.held), i+1)
			}
		}
		for _, n := range top.held {
			if n.viol.Time >= limit {
				t.Errorf("limit %d: held: %+v", limit, n)
			}
		}
	}
}

// What was held and has gone is not kept in the spare room.
func TestGone(t *testing.T) {
	top, _ := New(5)
	for i := range 20 {
		top.Put(api.Viol{Kind: 1, Time: 20 - i})
	}
	for _, n := range top.held[len(top.held):cap(top.held)] {
		if n != (numbered{}) {
			t.Errorf("kept: %+v", n)
		}
	}
}
