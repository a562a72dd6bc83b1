package losers_test

import (
	"slices"
	"testing"

	"proctor/api"
	"proctor/losers"
	"proctor/rows"
)

// dice is a source of numbers that is the same in every run.
type dice uint64

func (d *dice) below(n int) int {
	*d = *d*6364136223846793005 + 1442695040888963407
	return int(uint64(*d) >> 33 % uint64(n))
}

// row gives rows of which many are alike in what the orders look at, and a few
// aren't right. No two of one dice are the same: To counts them.
func (d *dice) row(count int) rows.Row {
	return rows.Row{
		Kind: 1 + d.below(3) + d.below(30)/29*3, Time: d.below(4), Seq: d.below(3), Index: d.below(3), To: count,
	}
}

func right(r rows.Row) bool { return r.Kind <= 3 }

// number rises as the rows of the dice do in an order.
func number(order int, r rows.Row) int {
	if order == 1 {
		return r.Time*100 + r.Kind*10 + r.Index
	}
	return r.Time*100 + r.Seq*10 + r.Index
}

// model keeps for each source the rows that it holds (none or one), and
// whether it is finished.
type model struct {
	order int
	held  [][]rows.Row
	ended []bool
}

func (m *model) waits(i int) bool { return len(m.held[i]) == 0 && !m.ended[i] }

func (m *model) waiting() []int {
	var list []int
	for i := range m.held {
		if m.waits(i) {
			list = append(list, i)
		}
	}
	return list
}

func (m *model) feed(i int, r rows.Row) api.Errno {
	switch {
	case i < 0 || i >= len(m.held):
		return api.ErrSource
	case !m.waits(i):
		return api.ErrFed
	case !right(r):
		return api.ErrRow
	}
	m.held[i] = []rows.Row{r}
	return api.OK
}

func (m *model) finish(i int) api.Errno {
	switch {
	case i < 0 || i >= len(m.held):
		return api.ErrSource
	case !m.waits(i):
		return api.ErrFed
	}
	m.ended[i] = true
	return api.OK
}

func (m *model) win() (int, rows.Row, api.Errno) {
	if len(m.waiting()) > 0 {
		return 0, rows.Row{}, api.ErrWait
	}
	best := -1
	for i := range m.held {
		if len(m.held[i]) > 0 && (best < 0 || number(m.order, m.held[i][0]) < number(m.order, m.held[best][0])) {
			best = i
		}
	}
	if best < 0 {
		return 0, rows.Row{}, api.ErrDry
	}
	r := m.held[best][0]
	m.held[best] = nil
	return best, r, api.OK
}

// pick gives mostly a source that waits, else any number near the sources'.
func (m *model) pick(d *dice) int {
	if list := m.waiting(); len(list) > 0 && d.below(4) > 0 {
		return list[d.below(len(list))]
	}
	return d.below(len(m.held)+3) - 1
}

// All promises of a tree: it answers as the model, whatever is asked.
func TestModel(t *testing.T) {
	d := dice(11)
	seen := map[api.Errno]int{}
	won := map[int]int{}
	for round := range 640 {
		k := 1 + round%api.MaxFan
		m := &model{order: 1 + d.below(2), held: make([][]rows.Row, k), ended: make([]bool, k)}
		x := made(t, m.order, k)
		for count := range 6*k + 20 {
			i := m.pick(&d)
			if d.below(8) == 0 {
				want := m.finish(i)
				finishes(t, x, i, want)
				seen[want]++
			} else {
				r := d.row(count)
				want := m.feed(i, r)
				feeds(t, x, i, r, want)
				seen[want]++
			}
			waiting(t, x, m.waiting()...)
			source, r, e := m.win()
			if i, got, answer := x.Win(); i != source || got != r || answer != e {
				t.Fatalf("Win = %d, %v, %d; want %d, %v, %d", i, got, answer, source, r, e)
			}
			seen[e]++
			if e == api.OK {
				won[source]++
			}
			waiting(t, x, m.waiting()...)
		}
	}
	for _, e := range []api.Errno{api.OK, api.ErrSource, api.ErrFed, api.ErrRow, api.ErrWait, api.ErrDry} {
		if seen[e] < 200 {
			t.Errorf("answer %d was seen %d times only", e, seen[e])
		}
	}
	for i := range api.MaxFan - 4 {
		if won[i] < 2 {
			t.Errorf("source %d has won %d times only", i, won[i])
		}
	}
}

// modelSort puts one row after the other behind all that don't come after it.
func modelSort(order int, list []rows.Row) []rows.Row {
	var sorted []rows.Row
	for _, r := range list {
		at := len(sorted)
		for at > 0 && number(order, sorted[at-1]) > number(order, r) {
			at--
		}
		sorted = slices.Insert(sorted, at, r)
	}
	return sorted
}

func modelMerge(order int, lists [][]rows.Row) ([]rows.Row, api.Errno) {
	for _, list := range lists {
		for i, r := range list {
			if !right(r) {
				return nil, api.ErrRow
			}
			if i > 0 && number(order, list[i-1]) > number(order, r) {
				return nil, api.ErrUnsorted
			}
		}
	}
	return modelSort(order, slices.Concat(lists...)), api.OK
}

// lists gives lists that are mostly sorted, of rows that are mostly right.
func (d *dice) lists(order int, k int) [][]rows.Row {
	faults, count := d.below(3) == 0, 0
	all := make([][]rows.Row, k)
	for i := range all {
		var list []rows.Row
		for range d.below(12) {
			r := d.row(count)
			if right(r) || faults {
				list = append(list, r)
			}
			count++
		}
		if !faults || d.below(20) > 0 {
			list = modelSort(order, list)
		}
		all[i] = list
	}
	return all
}

// P11.5: lists are merged as by the model, which sorts all that they hold.
func TestModelMerge(t *testing.T) {
	d := dice(115)
	seen := map[api.Errno]int{}
	for round := range 3000 {
		order := 1 + round%2
		lists := d.lists(order, 1+d.below(1+round%api.MaxFan))
		want, e := modelMerge(order, lists)
		if got, answer := losers.Merge(order, lists); answer != e || !slices.Equal(got, want) {
			t.Fatalf("Merge(%d, %v) = %v, %d; want %v, %d", order, lists, got, answer, want, e)
		}
		seen[e]++
	}
	for _, e := range []api.Errno{api.OK, api.ErrRow, api.ErrUnsorted} {
		if seen[e] < 100 {
			t.Errorf("answer %d was seen %d times only", e, seen[e])
		}
	}
}
