package runs_test

import (
	"math"
	"slices"
	"strings"
	"testing"

	"proctor/api"
	"proctor/rows"
	"proctor/runs"
)

// least is how many bytes the shortest row has.
const least = 7

// sized is a right row of that many bytes, up to 127 more than the least.
func sized(time int, bytes int) rows.Row {
	return rows.Row{Kind: rows.RowEnd, Time: time, Body: strings.Repeat("x", bytes-least)}
}

// greatest is the row of the most bytes: 538.
func greatest() rows.Row {
	return rows.Row{
		Kind: rows.RowSession, Time: api.MaxTime, Seq: api.MaxId, Index: api.MaxTxns - 1,
		From: api.MaxTime, To: api.MaxTime, Body: strings.Repeat("\xff", api.MaxBody),
	}
}

// named is a list of rows that aren't all in order, each told by its Body; in
// both orders there are rows alike.
func named() []rows.Row {
	return []rows.Row{
		{Kind: 2, Time: 5, Seq: 1, Index: 1, Body: "a"},
		{Kind: 1, Time: 5, Seq: 2, Index: 1, Body: "b"},
		{Kind: 1, Time: 5, Seq: 1, Index: 2, Body: "c"},
		{Kind: 3, Time: 4, Seq: 9, Index: 9, Body: "d"},
		{Kind: 2, Time: 5, Seq: 2, Index: 1, Body: "e"},
		{Kind: 1, Time: 5, Seq: 1, Index: 1, Body: "f"},
		{Kind: 1, Time: 6, Seq: 0, Index: 0, Body: "g"},
		{Kind: 3, Time: 4, Seq: 9, Index: 9, From: 7, Body: "h"},
		{Kind: 1, Time: 5, Seq: 2, Index: 1, To: 3, Body: "i"},
	}
}

// sortedNames is how the named rows stand in each order.
func sortedNames() map[int]string {
	return map[int]string{rows.ByTime: "dhbficaeg", rows.BySession: "dhafcbeig"}
}

func names(list []rows.Row) string {
	all := ""
	for _, r := range list {
		all += r.Body
	}
	return all
}

func unknownOrders() []int {
	return []int{0, -1, 3, 9, 257, 258, 1<<32 + 1, math.MinInt, math.MaxInt}
}

// made is a new buffer, which is empty.
func made(t *testing.T, order int, budget int) *runs.Buffer {
	t.Helper()
	b, e := runs.New(order, budget)
	if b == nil || e != api.OK {
		t.Fatalf("New(%d, %d) = %v, %d", order, budget, b, e)
	}
	holds(t, b, 0, 0, 0)
	return b
}

func holds(t *testing.T, b *runs.Buffer, bytes, rows, peak int) {
	t.Helper()
	if b.Bytes() != bytes || b.Len() != rows || b.Peak() != peak {
		t.Fatalf("Bytes %d, Len %d, Peak %d; want %d, %d, %d", b.Bytes(), b.Len(), b.Peak(), bytes, rows, peak)
	}
}

func adds(t *testing.T, b *runs.Buffer, r rows.Row, want api.Errno) {
	t.Helper()
	if e := b.Add(r); e != want {
		t.Fatalf("Add(%v) = %d; want %d", r, e, want)
	}
}

func takes(t *testing.T, b *runs.Buffer, want ...rows.Row) {
	t.Helper()
	if got := b.Take(); !slices.Equal(got, want) {
		t.Fatalf("Take = %v; want %v", got, want)
	}
}

// The chapter's examples.
func TestExamples(t *testing.T) {
	b := made(t, rows.ByTime, 20)
	first, second, third := sized(7, 10), sized(3, 10), sized(1, 10)
	adds(t, b, first, api.OK)
	adds(t, b, second, api.OK)
	adds(t, b, third, api.ErrFull)
	holds(t, b, 20, 2, 20)
	takes(t, b, second, first)
	holds(t, b, 0, 0, 20)
	adds(t, b, third, api.OK)
	holds(t, b, 10, 1, 20)

	adds(t, made(t, rows.ByTime, 9), sized(1, 10), api.ErrHuge)

	got, e := runs.Sort(rows.BySession, []rows.Row{{Time: 2}, {Time: 1, From: 1}, {Time: 1, From: 0}})
	if want := []rows.Row{{Time: 1, From: 1}, {Time: 1, From: 0}, {Time: 2}}; e != api.OK || !slices.Equal(got, want) {
		t.Errorf("Sort = %v, %d; want %v", got, e, want)
	}
}

// P10.1: which orders and budgets there are; an unknown order is told first.
func TestNew(t *testing.T) {
	wrong := []int{0, -1, api.MaxBudget + 1, 1<<32 + 1, math.MinInt, math.MaxInt}
	for _, order := range []int{rows.ByTime, rows.BySession} {
		for _, budget := range []int{1, 2, api.MinBudget, api.MaxBudget - 1, api.MaxBudget} {
			made(t, order, budget)
		}
		for _, budget := range wrong {
			if b, e := runs.New(order, budget); b != nil || e != api.ErrBudget {
				t.Errorf("New(%d, %d) = %v, %d; want nil, %d", order, budget, b, e, api.ErrBudget)
			}
		}
	}
	for _, order := range unknownOrders() {
		for _, budget := range append(wrong, 1, api.MaxBudget) {
			if b, e := runs.New(order, budget); b != nil || e != api.ErrOrder {
				t.Errorf("New(%d, %d) = %v, %d; want nil, %d", order, budget, b, e, api.ErrOrder)
			}
		}
	}
}

// P10.2: a row that isn't right is refused whatever the budget, and first.
func TestWrongRows(t *testing.T) {
	wrong := []rows.Row{
		{},
		{Kind: 4},
		{Kind: -1, Body: strings.Repeat("b", 1000)},
		{Kind: rows.RowEnd, Time: api.MaxTime + 1},
		{Kind: rows.RowEnd, Time: -1},
		{Kind: rows.RowEnd, Seq: api.MaxId + 1},
		{Kind: rows.RowEnd, Index: api.MaxTxns},
		{Kind: rows.RowEnd, From: math.MinInt},
		{Kind: rows.RowEnd, To: math.MaxInt},
		{Kind: rows.RowEnd, Body: strings.Repeat("b", api.MaxBody+1)},
	}
	for _, budget := range []int{1, 10, 1000, api.MaxBudget} {
		b := made(t, rows.ByTime, budget)
		for _, r := range wrong {
			adds(t, b, r, api.ErrRow)
			holds(t, b, 0, 0, 0)
		}
	}
	full := made(t, rows.ByTime, 10)
	adds(t, full, sized(1, 10), api.OK)
	for _, r := range wrong {
		adds(t, full, r, api.ErrRow)
		holds(t, full, 10, 1, 10)
	}
	takes(t, full, sized(1, 10))
}

// P10.2: a row alone fits up to the budget, byte for byte.
func TestHuge(t *testing.T) {
	for _, r := range []rows.Row{sized(0, least), sized(1, 8), sized(127, 134), greatest()} {
		size := rows.Size(r)
		for budget := 1; budget < size+3; budget++ {
			b := made(t, rows.BySession, budget)
			if budget < size {
				adds(t, b, r, api.ErrHuge)
				holds(t, b, 0, 0, 0)
				takes(t, b)
				continue
			}
			adds(t, b, r, api.OK)
			holds(t, b, size, 1, size)
			takes(t, b, r)
		}
	}
}

// P10.2: rows fit together up to the budget; what is huge is so too where the
// buffer is full.
func TestFull(t *testing.T) {
	b := made(t, rows.ByTime, 30)
	adds(t, b, sized(5, 12), api.OK)
	adds(t, b, sized(4, 19), api.ErrFull)
	holds(t, b, 12, 1, 12)
	adds(t, b, sized(3, 18), api.OK)
	holds(t, b, 30, 2, 30)
	adds(t, b, sized(2, least), api.ErrFull)
	adds(t, b, sized(2, 30), api.ErrFull)
	adds(t, b, sized(2, 31), api.ErrHuge)
	holds(t, b, 30, 2, 30)
	takes(t, b, sized(3, 18), sized(5, 12))
	adds(t, b, sized(2, 30), api.OK)
}

// P10.2, P10.3: a smaller row may still fit where a greater one was refused.
func TestSmallerFits(t *testing.T) {
	b := made(t, rows.ByTime, 20)
	adds(t, b, sized(9, 12), api.OK)
	adds(t, b, sized(1, 9), api.ErrFull)
	adds(t, b, sized(4, 8), api.OK)
	holds(t, b, 20, 2, 20)
	takes(t, b, sized(4, 8), sized(9, 12))
}

// P10.1, P10.2: the greatest budget can be filled to its last byte.
func TestGreatestBudget(t *testing.T) {
	b := made(t, rows.ByTime, api.MaxBudget)
	const whole = 31184 // with 224 bytes left
	for range whole {
		adds(t, b, greatest(), api.OK)
	}
	adds(t, b, greatest(), api.ErrFull)
	rest := []rows.Row{sized(3, 100), sized(2, 25), sized(2, 99)}
	for _, r := range rest {
		adds(t, b, r, api.OK)
	}
	holds(t, b, api.MaxBudget, whole+3, api.MaxBudget)
	adds(t, b, sized(0, least), api.ErrFull)
	got := b.Take()
	want := []rows.Row{rest[1], rest[2], rest[0], greatest()}
	if len(got) != whole+3 || !slices.Equal(got[:4], want) || got[whole+2] != greatest() {
		t.Errorf("Take: %d rows, from %v; want %d, from %v", len(got), got[:4], whole+3, want)
	}
	holds(t, b, 0, 0, api.MaxBudget)
}

// P10.3: rows come out in the buffer's own order, those alike as they were added.
func TestTake(t *testing.T) {
	for order, want := range sortedNames() {
		b := made(t, order, 1000)
		for range 3 {
			for _, r := range named() {
				adds(t, b, r, api.OK)
			}
			if got := names(b.Take()); got != want {
				t.Errorf("order %d: Take = %s; want %s", order, got, want)
			}
			holds(t, b, 0, 0, 8*len(named()))
			takes(t, b)
		}
	}
}

// P10.3: what was added behind a Take knows nothing of what was ahead of it.
func TestTakeAgain(t *testing.T) {
	b := made(t, rows.ByTime, 40)
	takes(t, b)
	holds(t, b, 0, 0, 0)
	adds(t, b, sized(1, 9), api.OK)
	adds(t, b, sized(2, 10), api.OK)
	takes(t, b, sized(1, 9), sized(2, 10))
	adds(t, b, sized(0, 8), api.OK)
	holds(t, b, 8, 1, 19)
	takes(t, b, sized(0, 8))
	holds(t, b, 0, 0, 19)
}

// P10.3: the peak rises with the bytes, never falls, and refusals don't count.
func TestPeak(t *testing.T) {
	b := made(t, rows.ByTime, 100)
	adds(t, b, sized(1, 30), api.OK)
	holds(t, b, 30, 1, 30)
	b.Take()
	adds(t, b, sized(1, 20), api.OK)
	holds(t, b, 20, 1, 30)
	adds(t, b, sized(1, 10), api.OK)
	holds(t, b, 30, 2, 30)
	adds(t, b, sized(1, 101), api.ErrHuge)
	adds(t, b, sized(1, 71), api.ErrFull)
	holds(t, b, 30, 2, 30)
	adds(t, b, sized(1, 7), api.OK)
	holds(t, b, 37, 3, 37)
	b.Take()
	holds(t, b, 0, 0, 37)
}

// P10.4: Sort stands by the order that it is given, and so does Sorted.
func TestSort(t *testing.T) {
	for order, want := range sortedNames() {
		got, e := runs.Sort(order, named())
		if e != api.OK || names(got) != want {
			t.Errorf("Sort(%d) = %s, %d; want %s", order, names(got), e, want)
		}
		if !runs.Sorted(order, got) || runs.Sorted(3-order, got) || runs.Sorted(order, named()) {
			t.Errorf("order %d: Sorted is wrong", order)
		}
	}
	for _, list := range [][]rows.Row{nil, {}, {{Time: -5}}} {
		for _, order := range []int{rows.ByTime, rows.BySession} {
			if got, e := runs.Sort(order, list); e != api.OK || !slices.Equal(got, list) {
				t.Errorf("Sort(%d, %v) = %v, %d", order, list, got, e)
			}
		}
	}
}

// P10.4: rows that are held against each other needn't be right.
func TestFarRows(t *testing.T) {
	far := []rows.Row{
		{Time: math.MaxInt, Body: "f"},
		{Index: math.MaxInt, Body: "e"},
		{Time: math.MinInt, Index: 1, Body: "b"},
		{Index: math.MinInt, Body: "d"},
		{Time: math.MinInt, Body: "a"},
		{Kind: math.MinInt, Seq: math.MinInt, Body: "c"},
		{Time: math.MaxInt, Body: "g"},
		{Time: math.MaxInt, From: math.MinInt, Body: strings.Repeat("h", api.MaxBody+1)},
	}
	for _, order := range []int{rows.ByTime, rows.BySession} {
		got, e := runs.Sort(order, far)
		if want := "abcdefg" + strings.Repeat("h", api.MaxBody+1); e != api.OK || names(got) != want {
			t.Errorf("Sort(%d) = %v, %d", order, got, e)
		}
		if !runs.Sorted(order, got) || runs.Sorted(order, far) {
			t.Errorf("order %d: Sorted is wrong", order)
		}
	}
}

// P10.4: rows of which neither comes first are sorted; one row that stands
// wrong is found wherever it is.
func TestSorted(t *testing.T) {
	for _, order := range []int{rows.ByTime, rows.BySession} {
		alike := []rows.Row{{Time: 1, From: 3}, {Time: 1, From: 2}, {Time: 1, From: 1}}
		if !runs.Sorted(order, alike) || !runs.Sorted(order, nil) || !runs.Sorted(order, alike[:1]) {
			t.Errorf("order %d: Sorted is false", order)
		}
		for n := 2; n < 8; n++ {
			for wrong := 1; wrong < n; wrong++ {
				list := make([]rows.Row, n)
				for i := range list {
					list[i].Time = i
				}
				if !runs.Sorted(order, list) {
					t.Errorf("order %d, %d rows: Sorted is false", order, n)
				}
				list[wrong-1].Time = wrong + 1
				if runs.Sorted(order, list[:wrong+1]) || runs.Sorted(order, list) {
					t.Errorf("order %d, %d rows, row %d stands wrong: Sorted is true", order, n, wrong)
				}
			}
		}
	}
}

// P10.4: orders that there aren't: nothing is sorted, and fewer than two rows
// are in every order.
func TestUnknownOrders(t *testing.T) {
	for _, order := range unknownOrders() {
		for n := range 4 {
			list := make([]rows.Row, n)
			if got, e := runs.Sort(order, list); got != nil || e != api.ErrOrder {
				t.Errorf("Sort(%d) of %d rows = %v, %d; want nil, %d", order, n, got, e, api.ErrOrder)
			}
			if got := runs.Sorted(order, list); got != (n < 2) {
				t.Errorf("Sorted(%d) of %d rows = %t", order, n, got)
			}
		}
	}
}

// spoil changes all of a list, its spare room too.
func spoil(list []rows.Row) {
	list = list[:cap(list)]
	for i := range list {
		list[i] = rows.Row{Kind: -7, Time: -7, Body: "spoiled"}
	}
}

// What is handed in stays, and an answer is new memory.
func TestOwnMemory(t *testing.T) {
	for order, want := range sortedNames() {
		room := append(named(), named()...)
		before := slices.Clone(room)
		got, _ := runs.Sort(order, room[:len(named())])
		runs.Sorted(order, room[:len(named())])
		if !slices.Equal(room, before) {
			t.Errorf("order %d: Sort changed its argument: %v", order, room)
		}
		other, _ := runs.Sort(order, named())
		spoil(other)
		spoil(room)
		if names(got) != want {
			t.Errorf("order %d: the answer of Sort changed: %v", order, got)
		}
	}
}

// Also where the list is sorted already, or has but one row.
func TestOwnMemoryOfSorted(t *testing.T) {
	for n := 1; n < 5; n++ {
		list := make([]rows.Row, n)
		got, _ := runs.Sort(rows.ByTime, list)
		spoil(got)
		if !slices.Equal(list, make([]rows.Row, n)) {
			t.Errorf("Sort of %d rows answers its argument", n)
		}
	}
}

func TestOwnMemoryOfTake(t *testing.T) {
	b := made(t, rows.ByTime, 100)
	for _, r := range named() {
		adds(t, b, r, api.OK)
	}
	first := b.Take()
	for _, r := range named() {
		adds(t, b, r, api.OK)
	}
	if want := sortedNames()[rows.ByTime]; names(first) != want {
		t.Errorf("an answer of Take changed with the buffer: %s", names(first))
	}
	spoil(first)
	if second := b.Take(); names(second) != sortedNames()[rows.ByTime] {
		t.Errorf("the buffer changed with an answer of Take: %s", names(second))
	}
}

// Two buffers know nothing of each other.
func TestTwoBuffers(t *testing.T) {
	a, b := made(t, rows.ByTime, 20), made(t, rows.BySession, 30)
	adds(t, a, sized(2, 10), api.OK)
	adds(t, b, sized(1, 11), api.OK)
	holds(t, a, 10, 1, 10)
	holds(t, b, 11, 1, 11)
	takes(t, a, sized(2, 10))
	holds(t, b, 11, 1, 11)
	takes(t, b, sized(1, 11))
}
