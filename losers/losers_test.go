package losers_test

import (
	"math"
	"slices"
	"strings"
	"testing"

	"proctor/api"
	"proctor/losers"
	"proctor/rows"
)

// at is a right row of a time; named is one that can be told from others alike.
func at(time int) rows.Row { return named(time, "") }

func named(time int, name string) rows.Row {
	return rows.Row{Kind: rows.RowEnd, Time: time, Body: name}
}

func unknownOrders() []int {
	return []int{0, -1, 3, 9, 257, 258, 1<<32 + 1, math.MinInt, math.MaxInt}
}

// wrongRows lists rows that aren't right, each in another field.
func wrongRows() []rows.Row {
	return []rows.Row{
		{},
		{Kind: 4},
		{Kind: -1, Body: strings.Repeat("b", 1000)},
		{Kind: rows.RowEnd, Time: api.MaxTime + 1},
		{Kind: rows.RowEnd, Time: -1},
		{Kind: rows.RowEnd, Seq: api.MaxId + 1},
		{Kind: rows.RowEnd, Index: api.MaxTxns},
		{Kind: rows.RowEnd, From: math.MinInt},
		{Kind: rows.RowEnd, To: math.MaxInt},
		{Kind: rows.RowEnd, Body: strings.Repeat("b", api.MaxBody+1)},
	}
}

// made is a new tree, all of whose sources wait.
func made(t *testing.T, order int, k int) *losers.Tree {
	t.Helper()
	x, e := losers.New(order, k)
	if x == nil || e != api.OK {
		t.Fatalf("New(%d, %d) = %v, %d", order, k, x, e)
	}
	all := make([]int, k)
	for i := range all {
		all[i] = i
	}
	waiting(t, x, all...)
	return x
}

func waiting(t *testing.T, x *losers.Tree, want ...int) {
	t.Helper()
	if got := x.Waiting(); !slices.Equal(got, want) {
		t.Fatalf("Waiting = %v; want %v", got, want)
	}
}

func feeds(t *testing.T, x *losers.Tree, i int, r rows.Row, want api.Errno) {
	t.Helper()
	if e := x.Feed(i, r); e != want {
		t.Fatalf("Feed(%d, %v) = %d; want %d", i, r, e, want)
	}
}

func finishes(t *testing.T, x *losers.Tree, i int, want api.Errno) {
	t.Helper()
	if e := x.Finish(i); e != want {
		t.Fatalf("Finish(%d) = %d; want %d", i, e, want)
	}
}

func wins(t *testing.T, x *losers.Tree, source int, r rows.Row) {
	t.Helper()
	if i, got, e := x.Win(); i != source || got != r || e != api.OK {
		t.Fatalf("Win = %d, %v, %d; want %d, %v", i, got, e, source, r)
	}
}

func nobodyWins(t *testing.T, x *losers.Tree, want api.Errno) {
	t.Helper()
	if i, r, e := x.Win(); i != 0 || r != (rows.Row{}) || e != want {
		t.Fatalf("Win = %d, %v, %d; want 0, an empty row, %d", i, r, e, want)
	}
}

func merges(t *testing.T, order int, lists [][]rows.Row, want ...rows.Row) {
	t.Helper()
	if got, e := losers.Merge(order, lists); e != api.OK || !slices.Equal(got, want) {
		t.Errorf("Merge(%d, %v) = %v, %d; want %v", order, lists, got, e, want)
	}
}

func mergesNot(t *testing.T, order int, lists [][]rows.Row, want api.Errno) {
	t.Helper()
	if got, e := losers.Merge(order, lists); got != nil || e != want {
		t.Errorf("Merge(%d, %v) = %v, %d; want nil, %d", order, lists, got, e, want)
	}
}

// The chapter's examples.
func TestExamples(t *testing.T) {
	x := made(t, rows.ByTime, 2)
	nobodyWins(t, x, api.ErrWait)
	feeds(t, x, 0, at(5), api.OK)
	feeds(t, x, 1, at(3), api.OK)
	wins(t, x, 1, at(3))
	waiting(t, x, 1)
	feeds(t, x, 0, at(4), api.ErrFed)
	finishes(t, x, 1, api.OK)
	wins(t, x, 0, at(5))
	finishes(t, x, 0, api.OK)
	nobodyWins(t, x, api.ErrDry)

	x = made(t, rows.ByTime, 2)
	feeds(t, x, 1, named(1, "one"), api.OK)
	feeds(t, x, 0, named(1, "zero"), api.OK)
	wins(t, x, 0, named(1, "zero"))

	merges(t, rows.ByTime, [][]rows.Row{
		{named(1, "a"), named(4, "a")},
		{named(1, "b"), named(2, "b"), named(9, "b")},
	}, named(1, "a"), named(1, "b"), named(2, "b"), named(4, "a"), named(9, "b"))
}

// P11.1: which orders and numbers of sources there are; an unknown order is told first.
func TestNew(t *testing.T) {
	wrong := []int{0, -1, api.MaxFan + 1, 1<<32 + 1, math.MinInt, math.MaxInt}
	for _, order := range []int{rows.ByTime, rows.BySession} {
		for k := 1; k <= api.MaxFan; k++ {
			made(t, order, k)
		}
		for _, k := range wrong {
			if x, e := losers.New(order, k); x != nil || e != api.ErrFan {
				t.Errorf("New(%d, %d) = %v, %d; want nil, %d", order, k, x, e, api.ErrFan)
			}
		}
	}
	for _, order := range unknownOrders() {
		for _, k := range append(wrong, 1, api.MaxFan) {
			if x, e := losers.New(order, k); x != nil || e != api.ErrOrder {
				t.Errorf("New(%d, %d) = %v, %d; want nil, %d", order, k, x, e, api.ErrOrder)
			}
		}
	}
}

// P11.2: sources that there aren't are told first, whatever the row.
func TestNoSource(t *testing.T) {
	for k := 1; k <= api.MaxFan; k++ {
		x := made(t, rows.ByTime, k)
		for _, i := range []int{-1, k, k + 1, 2 * k, -k, 1 << 32, math.MinInt, math.MaxInt} {
			feeds(t, x, i, at(1), api.ErrSource)
			feeds(t, x, i, rows.Row{}, api.ErrSource)
			finishes(t, x, i, api.ErrSource)
		}
		if len(x.Waiting()) != k {
			t.Errorf("%d sources, of which %v wait", k, x.Waiting())
		}
	}
}

// P11.2: a row that isn't right is refused, and the source waits on.
func TestWrongRows(t *testing.T) {
	x := made(t, rows.BySession, 2)
	feeds(t, x, 1, at(7), api.OK)
	for _, r := range wrongRows() {
		feeds(t, x, 0, r, api.ErrRow)
		waiting(t, x, 0)
		nobodyWins(t, x, api.ErrWait)
	}
	feeds(t, x, 0, at(9), api.OK)
	wins(t, x, 1, at(7))
}

// P11.2: a source that is fed or finished takes neither a row, right or not,
// nor an end; what it held stays.
func TestFed(t *testing.T) {
	x := made(t, rows.ByTime, 3)
	feeds(t, x, 0, at(6), api.OK)
	finishes(t, x, 2, api.OK)
	for _, i := range []int{0, 2} {
		feeds(t, x, i, at(1), api.ErrFed)
		feeds(t, x, i, rows.Row{}, api.ErrFed)
		finishes(t, x, i, api.ErrFed)
		waiting(t, x, 1)
	}
	feeds(t, x, 1, at(5), api.OK)
	finishes(t, x, 0, api.ErrFed)
	wins(t, x, 1, at(5))
	feeds(t, x, 2, at(1), api.ErrFed)
	finishes(t, x, 1, api.OK)
	wins(t, x, 0, at(6))
	feeds(t, x, 1, at(1), api.ErrFed)
	finishes(t, x, 2, api.ErrFed)
	waiting(t, x, 0)
	finishes(t, x, 0, api.OK)
	for i := range 3 {
		feeds(t, x, i, at(1), api.ErrFed)
		finishes(t, x, i, api.ErrFed)
	}
	nobodyWins(t, x, api.ErrDry)
}

// P11.2: the greatest row is taken and given as any other.
func TestGreatestRow(t *testing.T) {
	greatest := rows.Row{
		Kind: rows.RowSession, Time: api.MaxTime, Seq: api.MaxId, Index: api.MaxTxns - 1,
		From: api.MaxTime, To: api.MaxTime, Body: strings.Repeat("\xff", api.MaxBody),
	}
	for _, order := range []int{rows.ByTime, rows.BySession} {
		x := made(t, order, 2)
		feeds(t, x, 1, greatest, api.OK)
		finishes(t, x, 0, api.OK)
		wins(t, x, 1, greatest)
		merges(t, order, [][]rows.Row{{}, {greatest}, {greatest}}, greatest, greatest)
	}
}

// P11.3: nobody wins while one source waits, whatever the others are; asking
// changes nothing.
func TestWait(t *testing.T) {
	for k := 1; k <= api.MaxFan; k++ {
		for _, late := range []int{0, k / 2, k - 1} {
			x := made(t, rows.ByTime, k)
			for i := range k {
				switch {
				case i == late:
				case i%3 == 1:
					finishes(t, x, i, api.OK)
				default:
					feeds(t, x, i, at(10), api.OK)
				}
				nobodyWins(t, x, api.ErrWait)
			}
			waiting(t, x, late)
			nobodyWins(t, x, api.ErrWait)
			feeds(t, x, late, at(5), api.OK)
			waiting(t, x)
			wins(t, x, late, at(5))
			waiting(t, x, late)
			nobodyWins(t, x, api.ErrWait)
			nobodyWins(t, x, api.ErrWait)
			waiting(t, x, late)
		}
	}
}

// P11.3: nobody wins where all sources are finished, ever again.
func TestDry(t *testing.T) {
	for k := 1; k <= api.MaxFan; k++ {
		up, down := made(t, rows.BySession, k), made(t, rows.BySession, k)
		for i := range k {
			nobodyWins(t, up, api.ErrWait)
			nobodyWins(t, down, api.ErrWait)
			finishes(t, up, i, api.OK)
			finishes(t, down, k-1-i, api.OK)
		}
		for range 3 {
			nobodyWins(t, up, api.ErrDry)
			nobodyWins(t, down, api.ErrDry)
			waiting(t, up)
			waiting(t, down)
		}
	}
}

// P11.3: whichever source holds the least row, it wins, among any number.
func TestLeastOfAll(t *testing.T) {
	for k := 1; k <= api.MaxFan; k++ {
		for winner := range k {
			x := made(t, rows.ByTime, k)
			for i := range k {
				feeds(t, x, i, at(100-(i+k-winner)%k), api.OK)
			}
			// The source ahead of the winner holds the least row, and so on backwards.
			for step := range k {
				i := (winner - 1 - step + 2*k) % k
				wins(t, x, i, at(100-(i+k-winner)%k))
				waiting(t, x, i)
				finishes(t, x, i, api.OK)
			}
			nobodyWins(t, x, api.ErrDry)
		}
	}
}

// P11.3: of rows alike the one of the smallest source wins, whichever was fed
// first; only what the order looks at counts.
func TestAlike(t *testing.T) {
	alike := func(order, i int) rows.Row {
		r := rows.Row{Kind: 2, Time: 5, Seq: 5, Index: 5, From: 100 - i, To: 100 - i, Body: strings.Repeat("z", 100-i)}
		if order == rows.ByTime {
			r.Seq = 100 - i
		} else {
			r.Kind = 3 - i%3
		}
		return r
	}
	for _, order := range []int{rows.ByTime, rows.BySession} {
		for k := 1; k <= api.MaxFan; k++ {
			for _, backwards := range []bool{false, true} {
				x := made(t, order, k)
				for n := range k {
					i := n
					if backwards {
						i = k - 1 - n
					}
					feeds(t, x, i, alike(order, i), api.OK)
				}
				for i := range k {
					wins(t, x, i, alike(order, i))
					finishes(t, x, i, api.OK)
				}
			}
		}
	}
}

// P11.3: a source that wins and gets a row alike wins again.
func TestAlikeAgain(t *testing.T) {
	x := made(t, rows.ByTime, 3)
	for i := range 3 {
		feeds(t, x, i, at(4), api.OK)
	}
	for range 5 {
		wins(t, x, 0, at(4))
		feeds(t, x, 0, at(4), api.OK)
	}
	wins(t, x, 0, at(4))
	feeds(t, x, 0, at(5), api.OK)
	wins(t, x, 1, at(4))
	feeds(t, x, 1, at(4), api.OK)
	wins(t, x, 1, at(4))
	finishes(t, x, 1, api.OK)
	wins(t, x, 2, at(4))
	feeds(t, x, 2, at(5), api.OK)
	wins(t, x, 0, at(5))
}

// P11.3: each order looks at its own fields.
func TestOrders(t *testing.T) {
	a := rows.Row{Kind: rows.RowStart, Time: 5, Seq: 1, Index: 1}
	b := rows.Row{Kind: rows.RowEnd, Time: 5, Seq: 2, Index: 2}
	for order, want := range map[int]int{rows.ByTime: 1, rows.BySession: 0} {
		x := made(t, order, 2)
		feeds(t, x, 0, a, api.OK)
		feeds(t, x, 1, b, api.OK)
		wins(t, x, want, []rows.Row{a, b}[want])
	}
	merges(t, rows.ByTime, [][]rows.Row{{a}, {b}}, b, a)
	merges(t, rows.BySession, [][]rows.Row{{a}, {b}}, a, b)
}

// P11.3: what comes from one source may fall.
func TestFalling(t *testing.T) {
	x := made(t, rows.ByTime, 3)
	for i, time := range []int{50, 40, 30} {
		feeds(t, x, i, at(time), api.OK)
	}
	wins(t, x, 2, at(30))
	feeds(t, x, 2, at(60), api.OK)
	wins(t, x, 1, at(40))
	feeds(t, x, 1, at(1), api.OK)
	wins(t, x, 1, at(1))
	feeds(t, x, 1, at(0), api.OK)
	wins(t, x, 1, at(0))
	finishes(t, x, 1, api.OK)
	wins(t, x, 0, at(50))
	feeds(t, x, 0, at(2), api.OK)
	wins(t, x, 0, at(2))
	finishes(t, x, 0, api.OK)
	wins(t, x, 2, at(60))
}

// P11.4: those that wait are told rising, in whichever order they were fed.
func TestWaiting(t *testing.T) {
	x := made(t, rows.ByTime, 6)
	feeds(t, x, 4, at(1), api.OK)
	waiting(t, x, 0, 1, 2, 3, 5)
	finishes(t, x, 0, api.OK)
	waiting(t, x, 1, 2, 3, 5)
	feeds(t, x, 3, at(2), api.OK)
	feeds(t, x, 5, at(3), api.OK)
	waiting(t, x, 1, 2)
	finishes(t, x, 2, api.OK)
	feeds(t, x, 1, at(3), api.OK)
	waiting(t, x)
	wins(t, x, 4, at(1))
	waiting(t, x, 4)
	feeds(t, x, 4, at(9), api.OK)
	waiting(t, x)
}

// P11.5: no lists and too many; empty lists count as lists.
func TestMergeFan(t *testing.T) {
	mergesNot(t, rows.ByTime, nil, api.ErrFan)
	mergesNot(t, rows.ByTime, [][]rows.Row{}, api.ErrFan)
	mergesNot(t, rows.BySession, make([][]rows.Row, api.MaxFan+1), api.ErrFan)
	mergesNot(t, rows.ByTime, [][]rows.Row{64: {{}}}, api.ErrFan)
	merges(t, rows.ByTime, make([][]rows.Row, 1))
	merges(t, rows.ByTime, [][]rows.Row{{}, nil, {}})
	merges(t, rows.BySession, make([][]rows.Row, api.MaxFan))
	merges(t, rows.ByTime, [][]rows.Row{63: {at(1), at(2)}}, at(1), at(2))
	merges(t, rows.ByTime, [][]rows.Row{{at(3)}, {}, {at(1), at(4)}, nil, {at(2)}}, at(1), at(2), at(3), at(4))
}

// P11.5: an unknown order is told first.
func TestMergeOrder(t *testing.T) {
	for _, order := range unknownOrders() {
		mergesNot(t, order, nil, api.ErrOrder)
		mergesNot(t, order, make([][]rows.Row, api.MaxFan+1), api.ErrOrder)
		mergesNot(t, order, [][]rows.Row{{at(1)}}, api.ErrOrder)
		mergesNot(t, order, [][]rows.Row{{at(2), at(1)}, {{}}}, api.ErrOrder)
	}
}

// P11.5: the first fault counts, list by list, row by row; of one row that it
// isn't right.
func TestMergeFaults(t *testing.T) {
	high, low, wrong := at(2), at(1), rows.Row{}
	early := rows.Row{Kind: rows.RowEnd, Time: -1}
	for _, c := range []struct {
		lists [][]rows.Row
		want  api.Errno
	}{
		{[][]rows.Row{{wrong}}, api.ErrRow},
		{[][]rows.Row{{high, low}}, api.ErrUnsorted},
		{[][]rows.Row{{high, early}}, api.ErrRow},
		{[][]rows.Row{{high, low, wrong}}, api.ErrUnsorted},
		{[][]rows.Row{{high, wrong, low}}, api.ErrRow},
		{[][]rows.Row{{high, low}, {wrong}}, api.ErrUnsorted},
		{[][]rows.Row{{high, wrong}, {high, low}}, api.ErrRow},
		{[][]rows.Row{{low}, {}, {high, low}, {wrong}}, api.ErrUnsorted},
		{[][]rows.Row{{low}, {high}, {low, high, high, wrong}}, api.ErrRow},
		{[][]rows.Row{{low, low, high, high, low}}, api.ErrUnsorted},
		{[][]rows.Row{63: {high, low}}, api.ErrUnsorted},
		{[][]rows.Row{63: {wrong}}, api.ErrRow},
	} {
		for _, order := range []int{rows.ByTime, rows.BySession} {
			mergesNot(t, order, c.lists, c.want)
		}
	}
	for _, r := range wrongRows() {
		mergesNot(t, rows.ByTime, [][]rows.Row{{low}, {low, r}}, api.ErrRow)
	}
}

// P11.5: whether a list is sorted hangs on the order.
func TestMergeUnsortedInOneOrder(t *testing.T) {
	a := rows.Row{Kind: rows.RowStart, Time: 5, Seq: 1}
	b := rows.Row{Kind: rows.RowEnd, Time: 5, Seq: 2}
	merges(t, rows.BySession, [][]rows.Row{{a, b}}, a, b)
	mergesNot(t, rows.ByTime, [][]rows.Row{{a, b}}, api.ErrUnsorted)
	merges(t, rows.ByTime, [][]rows.Row{{b, a}}, b, a)
	mergesNot(t, rows.BySession, [][]rows.Row{{b, a}}, api.ErrUnsorted)
}

// P11.5: rows alike come by their lists' numbers, and as they stood in one.
func TestMergeAlike(t *testing.T) {
	for k := 1; k <= api.MaxFan; k++ {
		var lists [][]rows.Row
		var want []rows.Row
		for i := range k {
			var list []rows.Row
			for n := range i%3 + 1 {
				list = append(list, rows.Row{Kind: 1, Time: 5, From: 100 - n, To: 100 - i})
			}
			lists = append(lists, list)
			want = append(want, list...)
		}
		merges(t, rows.ByTime, lists, want...)
	}
}

// spoil changes all of a list, its spare room too.
func spoil(list []rows.Row) {
	list = list[:cap(list)]
	for i := range list {
		list[i] = named(-7, "spoiled")
	}
}

// What is handed in stays, and an answer is new memory, of one list too.
func TestOwnMemory(t *testing.T) {
	for k := 1; k < 4; k++ {
		room := []rows.Row{at(1), at(2), at(3), at(9)}
		lists := make([][]rows.Row, k, k+1)
		lists[k-1] = room[:3]
		spare := [][]rows.Row{{at(8)}}
		lists = append(lists, spare...)[:k]
		got, _ := losers.Merge(rows.ByTime, lists)
		other, _ := losers.Merge(rows.ByTime, lists)
		if !slices.Equal(room, []rows.Row{at(1), at(2), at(3), at(9)}) || len(lists[:k+1][k]) != 1 {
			t.Errorf("Merge changed its argument: %v", lists[:k+1])
		}
		spoil(other)
		if !slices.Equal(room, []rows.Row{at(1), at(2), at(3), at(9)}) {
			t.Errorf("an answer shares memory with the argument: %v", room)
		}
		spoil(room)
		if !slices.Equal(got, []rows.Row{at(1), at(2), at(3)}) {
			t.Errorf("an answer of Merge changed: %v", got)
		}
	}
}

func TestOwnMemoryOfWaiting(t *testing.T) {
	x := made(t, rows.ByTime, 4)
	first, second := x.Waiting(), x.Waiting()
	first = first[:cap(first)]
	for i := range first {
		first[i] = -7
	}
	waiting(t, x, 0, 1, 2, 3)
	feeds(t, x, 0, at(1), api.OK)
	waiting(t, x, 1, 2, 3)
	if !slices.Equal(second, []int{0, 1, 2, 3}) {
		t.Errorf("an answer of Waiting changed: %v", second)
	}
}

// Two trees know nothing of each other.
func TestTwoTrees(t *testing.T) {
	a, b := made(t, rows.ByTime, 2), made(t, rows.ByTime, 3)
	feeds(t, a, 0, at(1), api.OK)
	feeds(t, a, 1, at(2), api.OK)
	waiting(t, b, 0, 1, 2)
	for i := range 3 {
		feeds(t, b, i, at(9-i), api.OK)
	}
	wins(t, a, 0, at(1))
	wins(t, b, 2, at(7))
	waiting(t, a, 0)
	waiting(t, b, 2)
}
