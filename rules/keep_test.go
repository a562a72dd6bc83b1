package rules

import (
	"testing"

	"proctor/api"
	"proctor/rows"
)

// Of the last row no more is kept than the next one is held against.
func TestKept(t *testing.T) {
	w := NewWalk()
	if _, e := w.Take(rows.Row{Kind: rows.RowSession, Time: 1, Seq: 2, Index: 3, From: 4, To: 5, Body: "?"}); e != api.OK {
		t.Fatalf("Take = %d", e)
	}
	if w.last != (rows.Row{Time: 1, Seq: 2, Index: 3, To: 5}) {
		t.Errorf("kept: %+v", w.last)
	}
}
