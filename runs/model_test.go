package runs_test

import (
	"slices"
	"strings"
	"testing"

	"proctor/api"
	"proctor/rows"
	"proctor/runs"
)

// dice is a source of numbers that is the same in every run.
type dice uint64

func (d *dice) below(n int) int {
	*d = *d*6364136223846793005 + 1442695040888963407
	return int(uint64(*d) >> 33 % uint64(n))
}

// row gives rows of which many are alike in what the orders look at, and a few
// aren't right. No two of one dice are the same: To counts them.
func (d *dice) row(count int) rows.Row {
	return rows.Row{
		Kind: 1 + d.below(3) + d.below(30)/29*3, Time: d.below(4), Seq: d.below(3), Index: d.below(3),
		From: d.below(300), To: count, Body: strings.Repeat("m", d.below(20)),
	}
}

// modelSort puts one row after the other behind all that don't come after it.
func modelSort(order int, list []rows.Row) []rows.Row {
	number := func(r rows.Row) int {
		if order == 1 {
			return r.Time*100 + r.Kind*10 + r.Index
		}
		return r.Time*100 + r.Seq*10 + r.Index
	}
	var sorted []rows.Row
	for _, r := range list {
		at := len(sorted)
		for at > 0 && number(sorted[at-1]) > number(r) {
			at--
		}
		sorted = slices.Insert(sorted, at, r)
	}
	return sorted
}

// modelSize adds up the bytes of a row of the dice; 0, if it isn't right.
func modelSize(r rows.Row) int {
	if r.Kind > 3 {
		return 0
	}
	size := least + len(r.Body)
	for _, n := range []int{r.From, r.To} {
		for ; n > 127; n /= 128 {
			size++
		}
	}
	return size
}

// model keeps the rows held, and works out the rest.
type model struct {
	order, budget int
	held          []rows.Row
	peak          int
}

func (m *model) bytes() int {
	sum := 0
	for _, r := range m.held {
		sum += modelSize(r)
	}
	return sum
}

func (m *model) add(r rows.Row) api.Errno {
	switch size := modelSize(r); {
	case size == 0:
		return api.ErrRow
	case size > m.budget:
		return api.ErrHuge
	case m.bytes()+size > m.budget:
		return api.ErrFull
	}
	m.held = append(m.held, r)
	m.peak = max(m.peak, m.bytes())
	return api.OK
}

func (m *model) take() []rows.Row {
	taken := modelSort(m.order, m.held)
	m.held = nil
	return taken
}

// All promises of a buffer: it answers as the model, whatever is asked.
func TestModel(t *testing.T) {
	d := dice(10)
	seen := map[api.Errno]int{}
	for round := range 400 {
		m := &model{order: 1 + round%2, budget: 1 + d.below(1+round)}
		b := made(t, m.order, m.budget)
		for count := range 150 {
			if d.below(20) == 0 {
				takes(t, b, m.take()...)
			}
			r := d.row(count)
			want := m.add(r)
			adds(t, b, r, want)
			holds(t, b, m.bytes(), len(m.held), m.peak)
			seen[want]++
		}
		takes(t, b, m.take()...)
	}
	for _, e := range []api.Errno{api.OK, api.ErrRow, api.ErrHuge, api.ErrFull} {
		if seen[e] < 1000 {
			t.Errorf("answer %d was seen %d times only", e, seen[e])
		}
	}
}

// P10.4: lists of all lengths, rising, falling and mixed, are sorted as by the model.
func TestModelSort(t *testing.T) {
	d := dice(104)
	seen := map[bool]int{}
	for n := range 200 {
		for round := range 8 {
			order := 1 + round%2
			list := make([]rows.Row, n)
			for i := range list {
				list[i] = d.row(i)
			}
			switch round / 2 {
			case 0:
				list = modelSort(order, list)
			case 1:
				list = modelSort(order, list)
				slices.Reverse(list)
			}
			want := modelSort(order, list)
			if got, e := runs.Sort(order, list); e != api.OK || !slices.Equal(got, want) {
				t.Fatalf("Sort(%d, %v) = %v, %d; want %v", order, list, got, e, want)
			}
			sorted := slices.Equal(want, list)
			if runs.Sorted(order, list) != sorted {
				t.Fatalf("Sorted(%d, %v) = %t", order, list, !sorted)
			}
			seen[sorted]++
		}
	}
	if seen[true] < 100 || seen[false] < 100 {
		t.Errorf("sorted lists were seen %d times, others %d times", seen[true], seen[false])
	}
}
