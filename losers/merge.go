package losers

import (
	"proctor/api"
	"proctor/rows"
)

// Merge merges sorted lists.
func Merge(order int, lists [][]rows.Row) ([]rows.Row, api.Errno) {
	t, e := New(order, len(lists))
	if e != api.OK {
		return nil, e
	}
	total := 0
	for _, list := range lists {
		if e := look(order, list); e != api.OK {
			return nil, e
		}
		total += len(list)
	}
	next := make([]int, len(lists))
	for i := range lists {
		t.advance(i, lists, next)
	}
	merged := make([]rows.Row, 0, total)
	for range total {
		i, r, _ := t.Win()
		merged = append(merged, r)
		t.advance(i, lists, next)
	}
	return merged, api.OK
}

// look tells the first fault of a list.
func look(order int, list []rows.Row) api.Errno {
	for i, r := range list {
		if !rows.Valid(r) {
			return api.ErrRow
		}
		if i > 0 && rows.Compare(order, r, list[i-1]) < 0 {
			return api.ErrUnsorted
		}
	}
	return api.OK
}

// advance gives source i, which waits, the next row of its list. All rows have
// been looked at, so that none is refused.
func (t *Tree) advance(i int, lists [][]rows.Row, next []int) {
	if next[i] == len(lists[i]) {
		t.Finish(i)
		return
	}
	t.Feed(i, lists[i][next[i]])
	next[i]++
}
