package spans_test

import (
	"math"
	"slices"
	"strings"
	"testing"

	"proctor/api"
	"proctor/spans"
)

func span(from, to, id int) spans.Span { return spans.Span{From: from, To: to, Id: id} }

func inserts(t *testing.T, f *spans.Forest, key string, s spans.Span, want api.Errno) {
	t.Helper()
	if e := f.Insert(key, s); e != want {
		t.Fatalf("Insert(%q, %v) = %d; want %d", key, s, e, want)
	}
}

func removes(t *testing.T, f *spans.Forest, key string, s spans.Span, want bool) {
	t.Helper()
	if ok := f.Remove(key, s); ok != want {
		t.Fatalf("Remove(%q, %v) = %t; want %t", key, s, ok, want)
	}
}

func overlaps(t *testing.T, f *spans.Forest, key string, from, to int, want ...spans.Span) {
	t.Helper()
	if got := f.Overlap(key, from, to); !slices.Equal(got, want) {
		t.Errorf("Overlap(%q, %d, %d) = %v; want %v", key, from, to, got, want)
	}
}

// firsts looks at First; want is nothing, or the one span.
func firsts(t *testing.T, f *spans.Forest, key string, from, to int, want ...spans.Span) {
	t.Helper()
	one := spans.Span{}
	if len(want) > 0 {
		one = want[0]
	}
	if s, ok := f.First(key, from, to); s != one || ok != (len(want) > 0) {
		t.Errorf("First(%q, %d, %d) = %v, %t; want %v", key, from, to, s, ok, want)
	}
}

func drops(t *testing.T, f *spans.Forest, floor int, want int) {
	t.Helper()
	if n := f.Drop(floor); n != want {
		t.Errorf("Drop(%d) = %d; want %d", floor, n, want)
	}
}

func counts(t *testing.T, f *spans.Forest, want int) {
	t.Helper()
	if n := f.Count(); n != want {
		t.Errorf("Count = %d; want %d", n, want)
	}
}

// has looks at all spans of a key, and at the height that so many allow: every
// span overlaps what begins ahead of all times and ends behind them.
func has(t *testing.T, f *spans.Forest, key string, want ...spans.Span) {
	t.Helper()
	overlaps(t, f, key, -1, api.MaxTime+1, want...)
	balanced(t, f, key, len(want))
}

// balanced holds a tree's height against the bounds of P14.5.
func balanced(t *testing.T, f *spans.Forest, key string, n int) {
	t.Helper()
	h := f.Height(key)
	if h < 0 || h > 40 || n >= 1<<h || n < fewest(h) {
		t.Errorf("Height(%q) = %d with %d spans", key, h, n)
	}
}

// fewest is the chapter's N(h).
func fewest(h int) int {
	low, high := 0, 1
	for range h {
		low, high = high, low+high+1
	}
	return low
}

// first is the forest of the chapter's first example.
func first(t *testing.T) *spans.Forest {
	t.Helper()
	f := spans.New()
	inserts(t, f, "a", span(2, 5, 0), api.OK)
	inserts(t, f, "a", span(4, 9, 1), api.OK)
	inserts(t, f, "a", span(9, 9, 2), api.OK)
	return f
}

// The chapter's examples.
func TestExamples(t *testing.T) {
	f := first(t)
	overlaps(t, f, "a", 5, 9, span(4, 9, 1))
	overlaps(t, f, "a", 4, 5, span(2, 5, 0), span(4, 9, 1))
	firsts(t, f, "a", 0, 10, span(2, 5, 0))
	overlaps(t, f, "a", 9, 9)
	inserts(t, f, "a", span(4, 9, 1), api.ErrTwice)
	drops(t, f, 5, 1)
	counts(t, f, 2)
	removes(t, f, "a", span(4, 9, 1), true)
	removes(t, f, "a", span(4, 9, 1), false)
}

// P14.1: a new forest has nothing, and can be asked for anything.
func TestEmpty(t *testing.T) {
	f := spans.New()
	if f == nil {
		t.Fatal("New = nil")
	}
	numbers := []int{math.MinInt, -1, 0, 1, api.MaxTime, math.MaxInt}
	for _, key := range []string{"", "a", "\x00", strings.Repeat("k", api.MaxKey+1), strings.Repeat("k", 100000)} {
		for _, from := range numbers {
			for _, to := range numbers {
				overlaps(t, f, key, from, to)
				firsts(t, f, key, from, to)
				removes(t, f, key, span(from, to, from), false)
			}
			drops(t, f, from, 0)
		}
		has(t, f, key)
	}
	counts(t, f, 0)
}

// P14.1: keys have from 1 to MaxKey bytes, whichever they are.
func TestKeyBounds(t *testing.T) {
	for _, key := range []string{"a", "\x00", "\xff", "\x80\x00", " ", "\n", strings.Repeat("k", api.MaxKey-1), strings.Repeat("\xff", api.MaxKey)} {
		f := spans.New()
		inserts(t, f, key, span(1, 2, 3), api.OK)
		has(t, f, key, span(1, 2, 3))
		counts(t, f, 1)
		removes(t, f, key, span(1, 2, 3), true)
		has(t, f, key)
		counts(t, f, 0)
	}
	for _, key := range []string{"", strings.Repeat("k", api.MaxKey+1), strings.Repeat("\x00", api.MaxKey+1), strings.Repeat("k", api.MaxKey+256), strings.Repeat("k", 1<<16)} {
		f := spans.New()
		inserts(t, f, key, span(1, 2, 3), api.ErrKey)
		has(t, f, key)
		counts(t, f, 0)
		removes(t, f, key, span(1, 2, 3), false)
	}
}

// wrongSpans lists spans of which one thing each isn't right.
func wrongSpans() []spans.Span {
	list := []spans.Span{
		span(1, 0, 5), span(6, 5, 5), span(api.MaxTime, api.MaxTime-1, 5), span(api.MaxTime, 0, 5),
		span(math.MinInt, math.MinInt, 5), span(-2, -1, 5), span(-1, api.MaxTime, 5), span(-1, 0, 5), span(math.MinInt, 0, 5),
		span(0, api.MaxTime+1, 5), span(api.MaxTime, api.MaxTime+1, 5), span(api.MaxTime+1, api.MaxTime+1, 5), span(0, 1<<56, 5), span(0, math.MaxInt, 5),
	}
	for _, id := range []int{-1, api.MaxTxns, api.MaxTxns + 1, 1<<32 + 5, math.MinInt, math.MaxInt} {
		list = append(list, span(3, 5, id), span(5, 5, id))
	}
	return list
}

// P14.1: each field is right up to its bounds, and not past them.
func TestSpanBounds(t *testing.T) {
	for _, s := range []spans.Span{
		{},
		span(0, 0, api.MaxTxns-1),
		span(0, api.MaxTime, 0),
		span(api.MaxTime, api.MaxTime, api.MaxTxns-1),
		span(api.MaxTime-1, api.MaxTime, api.MaxTxns-2),
		span(1, 1, 1),
	} {
		f := spans.New()
		inserts(t, f, "a", s, api.OK)
		has(t, f, "a", s)
		overlaps(t, f, "a", s.To-1, s.From+1, s)
		overlaps(t, f, "a", s.To, s.From+1)
		overlaps(t, f, "a", s.To-1, s.From)
		firsts(t, f, "a", s.To-1, s.From+1, s)
		firsts(t, f, "a", s.To, s.From+1)
		firsts(t, f, "a", s.To-1, s.From)
		drops(t, f, s.To-1, 0)
		drops(t, f, s.To, 1)
		has(t, f, "a")
	}
	for _, s := range wrongSpans() {
		f := spans.New()
		inserts(t, f, "a", s, api.ErrSpan)
		has(t, f, "a")
		counts(t, f, 0)
		removes(t, f, "a", s, false)
	}
}

// P14.1: only the very span is one that the key has already, or has to lose.
func TestVerySpan(t *testing.T) {
	s := span(4, 9, 7)
	near := []spans.Span{span(3, 9, 7), span(4, 8, 7), span(4, 9, 6), span(4, 9, 8), span(4, 10, 7), span(5, 9, 7)}
	f := spans.New()
	inserts(t, f, "a", s, api.OK)
	for _, other := range near {
		removes(t, f, "a", other, false)
	}
	for _, other := range near {
		inserts(t, f, "a", other, api.OK)
		inserts(t, f, "a", other, api.ErrTwice)
		inserts(t, f, "a", s, api.ErrTwice)
	}
	has(t, f, "a", near[0], near[1], near[2], s, near[3], near[4], near[5])
	counts(t, f, 7)
	removes(t, f, "a", s, true)
	removes(t, f, "a", s, false)
	has(t, f, "a", near...)
	counts(t, f, 6)
	inserts(t, f, "a", s, api.OK)
	inserts(t, f, "a", s, api.ErrTwice)
	counts(t, f, 7)
}

// P14.1: each key has its own spans.
func TestKeysApart(t *testing.T) {
	f := spans.New()
	keys := []string{"a", "A", "a\x00", "aa", "\x00", "b"}
	for n, key := range keys {
		inserts(t, f, key, span(1, 5, 0), api.OK)
		inserts(t, f, key, span(1, 5, 0), api.ErrTwice)
		inserts(t, f, key, span(2, 6, n), api.OK)
	}
	counts(t, f, 12)
	removes(t, f, "a", span(1, 5, 0), true)
	removes(t, f, "b", span(2, 6, 0), false)
	has(t, f, "a", span(2, 6, 0))
	for n, key := range keys[1:] {
		has(t, f, key, span(1, 5, 0), span(2, 6, n+1))
		firsts(t, f, key, 0, 9, span(1, 5, 0))
	}
	counts(t, f, 11)
}

// P14.1: of several errors the first is told; nothing changes with them.
func TestErrorOrder(t *testing.T) {
	f := spans.New()
	inserts(t, f, "a", span(3, 5, 5), api.OK)
	for _, s := range append(wrongSpans(), span(3, 5, 5)) {
		inserts(t, f, "", s, api.ErrKey)
		inserts(t, f, strings.Repeat("k", api.MaxKey+1), s, api.ErrKey)
	}
	for _, s := range wrongSpans() {
		inserts(t, f, "a", s, api.ErrSpan)
		inserts(t, f, "b", s, api.ErrSpan)
	}
	has(t, f, "a", span(3, 5, 5))
	has(t, f, "b")
	counts(t, f, 1)
}

// P14.2: what only touches doesn't overlap; the two numbers may be any, the
// first above the second too.
func TestOverlapEdges(t *testing.T) {
	f := spans.New()
	long, point, short := span(2, 12, 0), span(5, 5, 1), span(5, 8, 2)
	for _, s := range []spans.Span{short, point, long} {
		inserts(t, f, "k", s, api.OK)
	}
	overlaps(t, f, "k", 0, 2)
	overlaps(t, f, "k", 0, 3, long)
	overlaps(t, f, "k", 4, 5, long)
	overlaps(t, f, "k", 4, 6, long, point, short)
	overlaps(t, f, "k", 5, 5, long)
	overlaps(t, f, "k", 5, 6, long, short)
	overlaps(t, f, "k", 7, 6, long, short)
	overlaps(t, f, "k", 8, 9, long)
	overlaps(t, f, "k", 11, 3, long)
	overlaps(t, f, "k", 11, 2)
	overlaps(t, f, "k", 12, 100)
	overlaps(t, f, "k", math.MinInt, math.MaxInt, long, point, short)
	overlaps(t, f, "k", math.MaxInt, math.MinInt)
	overlaps(t, f, "k", math.MinInt, math.MinInt)
	overlaps(t, f, "k", math.MaxInt, math.MaxInt)
	overlaps(t, f, "K", 0, 100)
}

// P14.2: spans come by From, then To, then Id, in whichever order they came in.
func TestOrder(t *testing.T) {
	want := []spans.Span{
		span(0, 3, 9), span(0, 5, 1), span(0, 5, 4), span(0, api.MaxTime, 0), span(1, 1, 8), span(1, 2, 7), span(1, 2, 9),
		span(2, 2, 0), span(2, 9, 0), span(2, 9, api.MaxTxns-1), span(3, 4, 2),
	}
	// The number of the spans is a prime, so each step comes to all of them.
	for step := 1; step < len(want); step++ {
		f := spans.New()
		for i := range want {
			inserts(t, f, "k", want[i*step%len(want)], api.OK)
		}
		has(t, f, "k", want...)
	}
}

// P14.3: the least To, then the least Id, then the least From.
func TestFirst(t *testing.T) {
	ranked := []spans.Span{
		span(4, 4, 9), span(3, 5, 0), span(1, 5, 1), span(2, 5, 1), span(5, 5, 1), span(0, 5, 2), span(6, 6, 0), span(0, 7, 0), span(0, 7, 3), span(9, 9, 0),
	}
	for step := range len(ranked) {
		f := spans.New()
		for i := range ranked {
			inserts(t, f, "k", ranked[(i*7+step)%len(ranked)], api.OK)
		}
		for _, s := range ranked {
			firsts(t, f, "k", -1, 10, s)
			removes(t, f, "k", s, true)
		}
		firsts(t, f, "k", -1, 10)
	}
}

// P14.3: only what overlaps counts.
func TestFirstOfOverlapping(t *testing.T) {
	f := spans.New()
	for _, s := range []spans.Span{span(1, 3, 0), span(2, 6, 1), span(5, 7, 2), span(6, 6, 3), span(8, 9, 4)} {
		inserts(t, f, "k", s, api.OK)
	}
	firsts(t, f, "k", 2, 9, span(1, 3, 0))
	firsts(t, f, "k", 3, 9, span(2, 6, 1))
	firsts(t, f, "k", 3, 2)
	firsts(t, f, "k", 3, 3, span(2, 6, 1))
	firsts(t, f, "k", 6, 9, span(5, 7, 2))
	firsts(t, f, "k", 7, 9, span(8, 9, 4))
	firsts(t, f, "k", 7, 8)
	firsts(t, f, "k", 9, 10)
	firsts(t, f, "k", math.MinInt, math.MaxInt, span(1, 3, 0))
	firsts(t, f, "k", math.MaxInt, math.MinInt)
	firsts(t, f, "", 0, 10)
}

// P14.3: the one that ends first may begin last, or be far from the first one.
func TestFirstAmongMany(t *testing.T) {
	f := spans.New()
	for n := range 500 {
		inserts(t, f, "k", span(n, 2000-n, n), api.OK)
	}
	firsts(t, f, "k", 0, 500, span(499, 1501, 499))
	firsts(t, f, "k", 0, 400, span(399, 1601, 399))
	inserts(t, f, "k", span(250, 1501, 3), api.OK)
	firsts(t, f, "k", 0, 500, span(250, 1501, 3))
	firsts(t, f, "k", 1501, 500, span(498, 1502, 498))
	inserts(t, f, "k", span(1501, 1501, 2), api.OK)
	firsts(t, f, "k", 0, 1501, span(250, 1501, 3))
	firsts(t, f, "k", 0, 1502, span(1501, 1501, 2))
}

// P14.4: what ends at the floor goes, what ends behind it stays, whenever it began.
func TestDrop(t *testing.T) {
	byEnd := []spans.Span{span(0, 0, 0), span(0, 3, 1), span(2, 3, 0), span(3, 3, 4), span(1, 4, 2), span(4, 4, 2), span(0, 9, 0), span(5, api.MaxTime, 0)}
	for _, c := range []struct{ floor, gone int }{
		{math.MinInt, 0}, {-1, 0}, {0, 1}, {1, 1}, {2, 1}, {3, 4}, {4, 6}, {5, 6}, {8, 6}, {9, 7},
		{api.MaxTime - 1, 7}, {api.MaxTime, 8}, {math.MaxInt, 8},
	} {
		f := spans.New()
		for _, s := range byEnd {
			inserts(t, f, "k", s, api.OK)
		}
		drops(t, f, c.floor, c.gone)
		rest := slices.SortedFunc(slices.Values(byEnd[c.gone:]), func(a, b spans.Span) int {
			return (a.From-b.From)*100 + max(-9, min(a.To-b.To, 9))*10 + a.Id - b.Id
		})
		has(t, f, "k", rest...)
		counts(t, f, len(rest))
		drops(t, f, c.floor, 0)
		drops(t, f, math.MinInt, 0)
		drops(t, f, math.MaxInt, len(rest))
		has(t, f, "k")
		counts(t, f, 0)
	}
}

// P14.4: over all keys, each of which may lose all, some or none of its spans.
func TestDropSeveralKeys(t *testing.T) {
	f := spans.New()
	for n := range 10 {
		inserts(t, f, "a", span(0, n, 0), api.OK)
		inserts(t, f, "b", span(1, 1+2*n, 1), api.OK)
		inserts(t, f, "c", span(2, 100+n, 2), api.OK)
	}
	counts(t, f, 30)
	drops(t, f, 9, 10+5)
	has(t, f, "a")
	has(t, f, "b", span(1, 11, 1), span(1, 13, 1), span(1, 15, 1), span(1, 17, 1), span(1, 19, 1))
	counts(t, f, 15)
	drops(t, f, 10, 0)
	drops(t, f, 105, 5+6)
	has(t, f, "b")
	has(t, f, "c", span(2, 106, 2), span(2, 107, 2), span(2, 108, 2), span(2, 109, 2))
	counts(t, f, 4)
}

// P14.4: a floor bars nothing that comes in later, and what comes in below a
// floor that was dropped to goes with the next drop, a lower one too.
func TestInsertBehindDrop(t *testing.T) {
	f := spans.New()
	inserts(t, f, "a", span(1, 60, 0), api.OK)
	drops(t, f, 50, 0)
	inserts(t, f, "a", span(1, 10, 0), api.OK)
	inserts(t, f, "b", span(2, 20, 0), api.OK)
	has(t, f, "a", span(1, 10, 0), span(1, 60, 0))
	firsts(t, f, "a", 0, 5, span(1, 10, 0))
	drops(t, f, 9, 0)
	drops(t, f, 10, 1)
	drops(t, f, 19, 0)
	drops(t, f, 50, 1)
	drops(t, f, math.MaxInt, 1)
	inserts(t, f, "a", span(0, 0, 0), api.OK)
	drops(t, f, -1, 0)
	drops(t, f, 0, 1)
	inserts(t, f, "a", span(1, 60, 0), api.OK)
	removes(t, f, "a", span(1, 60, 0), true)
	drops(t, f, 60, 0)
	inserts(t, f, "c", span(1, 3, 0), api.OK)
	inserts(t, f, "c", span(1, 4, 0), api.OK)
	removes(t, f, "c", span(1, 3, 0), true)
	drops(t, f, 3, 0)
	drops(t, f, 4, 1)
	counts(t, f, 0)
}

// orders are ways to go through the numbers below 1000.
func orders() []func(int) int {
	return []func(int) int{
		func(i int) int { return i },
		func(i int) int { return 999 - i },
		func(i int) int { return i * 387 % 1000 },
		func(i int) int { return i/2 + i%2*(1000-i) },
		func(i int) int { return i%10*100 + i/10 },
	}
}

// P14.5: the height keeps its bounds with each span that comes and goes.
func TestHeight(t *testing.T) {
	for _, in := range orders() {
		for _, out := range orders() {
			f := spans.New()
			for i := range 1000 {
				inserts(t, f, "k", span(in(i), in(i)+3, 0), api.OK)
				balanced(t, f, "k", i+1)
			}
			for i := range 1000 {
				removes(t, f, "k", span(out(i), out(i)+3, 0), true)
				balanced(t, f, "k", 999-i)
			}
		}
	}
}

// P14.5: drops keep the bounds too, of all keys' trees.
func TestHeightBehindDrop(t *testing.T) {
	for _, end := range orders() {
		f := spans.New()
		for i := range 1000 {
			inserts(t, f, "a", span(i, 1000+end(i), 0), api.OK)
			inserts(t, f, "b", span(999-i, 1000+end(i), 0), api.OK)
		}
		for n := 1; n <= 1000; n += 9 {
			drops(t, f, 999+n, min(18, 2*n))
			balanced(t, f, "a", 1000-n)
			balanced(t, f, "b", 1000-n)
			counts(t, f, 2*(1000-n))
		}
	}
}

// P14.5: few spans have few heights.
func TestSmallHeights(t *testing.T) {
	f := spans.New()
	for n, h := range []int{0, 1, 2, 2, 3} {
		if n > 0 {
			inserts(t, f, "k", span(n, n, n), api.OK)
		}
		if got := f.Height("k"); got != h {
			t.Errorf("Height with %d spans = %d; want %d", n, got, h)
		}
	}
	for _, key := range []string{"", "K", "kk", strings.Repeat("k", 100)} {
		if got := f.Height(key); got != 0 {
			t.Errorf("Height(%q) = %d", key, got)
		}
	}
}

// An answer is new memory: who changes it changes neither the forest nor another
// answer, and what the forest does later doesn't change it.
func TestOwnMemory(t *testing.T) {
	f := spans.New()
	var want []spans.Span
	for n := range 5 {
		want = append(want, span(n, n+5, n))
		inserts(t, f, "a", want[n], api.OK)
	}
	spoiled, kept := f.Overlap("a", -1, 100), f.Overlap("a", -1, 100)
	spoiled = spoiled[:cap(spoiled)]
	for i := range spoiled {
		spoiled[i] = span(-7, -7, -7)
	}
	has(t, f, "a", want...)
	drops(t, f, 7, 3)
	inserts(t, f, "b", span(50, 60, 0), api.OK)
	if !slices.Equal(kept, want) {
		t.Errorf("an answer changed: %v", kept)
	}
	_ = append(kept[:2], span(-7, -7, -7))
	has(t, f, "a", want[3:]...)
}

// Two forests know nothing of each other.
func TestTwoForests(t *testing.T) {
	a, b := spans.New(), spans.New()
	inserts(t, a, "k", span(1, 5, 0), api.OK)
	inserts(t, b, "k", span(1, 5, 0), api.OK)
	inserts(t, b, "k", span(2, 6, 0), api.OK)
	drops(t, a, 9, 1)
	has(t, b, "k", span(1, 5, 0), span(2, 6, 0))
	has(t, a, "k")
	counts(t, a, 0)
	counts(t, b, 2)
}

// As many keys and spans as a log's transactions can write.
func TestMany(t *testing.T) {
	f := spans.New()
	name := func(n int) string { return string([]byte{'k', byte(n >> 8), byte(n)}) }
	for n := range 1 << 16 {
		inserts(t, f, name(n), span(n/api.MaxOps, 1<<20+n/api.MaxOps, n/api.MaxOps), api.OK)
		inserts(t, f, "k", span(n, n+100, n%api.MaxTxns), api.OK)
	}
	for n := range 1<<16 - 100 {
		overlaps(t, f, "k", n+99, n+1, span(n, n+100, n%api.MaxTxns))
		firsts(t, f, "k", n+99, n+100, span(n, n+100, n%api.MaxTxns))
	}
	for n := range 100 {
		drops(t, f, 99+n, min(n, 1))
	}
	balanced(t, f, "k", 1<<16-99)
	counts(t, f, 1<<17-99)
	drops(t, f, math.MaxInt, 1<<17-99)
	counts(t, f, 0)
}
