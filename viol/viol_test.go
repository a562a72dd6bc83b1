package viol_test

import (
	"math"
	"slices"
	"strings"
	"testing"

	"proctor/api"
	"proctor/viol"
)

// usual is right, and has something in every field.
func usual() api.Viol {
	return api.Viol{Kind: api.KindSnapshot, Time: 7, Txn: 1, Op: 2, Witness: 3, Key: "a", Want: true, Expected: "x", Got: true, Observed: "y", From: 4, To: 5}
}

// with gives the usual violation, changed.
func with(change func(v *api.Viol)) api.Viol {
	v := usual()
	change(&v)
	return v
}

// timed gives a violation of which only the time and the key differ.
func timed(time int, key string) api.Viol {
	return api.Viol{Kind: api.KindConflict, Time: time, Key: key}
}

func valid(t *testing.T, v api.Viol, want bool) {
	t.Helper()
	if viol.Valid(v) != want {
		t.Errorf("Valid(%+v) = %v", v, !want)
	}
}

// compared holds two violations against each other both ways round.
func compared(t *testing.T, a, b api.Viol, want int) {
	t.Helper()
	if got := viol.Compare(a, b); got != want {
		t.Errorf("Compare(%+v, %+v) = %d; want %d", a, b, got, want)
	}
	if got := viol.Compare(b, a); got != -want {
		t.Errorf("Compare(%+v, %+v) = %d; want %d", b, a, got, -want)
	}
}

func sorted(t *testing.T, list []api.Viol, want ...api.Viol) {
	t.Helper()
	if got := viol.Sort(list); !slices.Equal(got, want) {
		t.Errorf("Sort(%+v) = %+v; want %+v", list, got, want)
	}
}

func tallied(t *testing.T, list []api.Viol, want [11]int) {
	t.Helper()
	if got := viol.Tally(list); got != want {
		t.Errorf("Tally(%+v) = %v; want %v", list, got, want)
	}
}

func newTop(t *testing.T, limit int) *viol.Top {
	t.Helper()
	top, e := viol.New(limit)
	if e != api.OK || top == nil {
		t.Fatalf("New(%d) = %v, %d", limit, top, e)
	}
	return top
}

func puts(t *testing.T, top *viol.Top, list ...api.Viol) {
	t.Helper()
	for _, v := range list {
		if e := top.Put(v); e != api.OK {
			t.Errorf("Put(%+v) = %d", v, e)
		}
	}
}

func refuses(t *testing.T, top *viol.Top, v api.Viol) {
	t.Helper()
	if e := top.Put(v); e != api.ErrViol {
		t.Errorf("Put(%+v) = %d; want %d", v, e, api.ErrViol)
	}
}

func has(t *testing.T, top *viol.Top, total int, want ...api.Viol) {
	t.Helper()
	if list := top.List(); top.Total() != total || !slices.Equal(list, want) {
		t.Errorf("List = %+v, Total = %d; want %+v, %d", list, top.Total(), want, total)
	}
}

// The chapter's examples.
func TestExamples(t *testing.T) {
	compared(t, api.Viol{Time: 3, Kind: 8}, api.Viol{Time: 3, Kind: 7, Txn: 9}, 1)
	tallied(t, []api.Viol{{Kind: 8}, {Kind: 8}, {Kind: 11}}, [11]int{0: 1, 8: 2})

	nine, four, seven := timed(9, ""), timed(4, ""), timed(7, "")
	top := newTop(t, 2)
	puts(t, top, nine, four, seven)
	has(t, top, 3, four, seven)
	none := newTop(t, 0)
	puts(t, none, nine, four, seven)
	has(t, none, 3)
}

// The violations of the document's examples of the whole are right, and two of
// one check come in the order in which they are told there.
func TestWholes(t *testing.T) {
	for _, v := range []api.Viol{
		{Kind: api.KindConflict, Time: 7, Txn: 1, Op: 1, Witness: 0, Key: "a", From: 3, To: 4},
		{Kind: api.KindSnapshot, Time: 7, Txn: 1, Op: 0, Witness: 0, Key: "a", Want: true, Expected: "x", From: 4, To: 5},
		{Kind: api.KindSession, Time: 5, Txn: 1, Op: -1, Witness: 0, From: 9, To: 5},
	} {
		valid(t, v, true)
	}
	inverted := api.Viol{Kind: api.KindInverted, Time: 5, Op: -1, Witness: -1, From: 5, To: 5}
	early := api.Viol{Kind: api.KindEarly, Time: 5, Op: -1, Witness: -1, From: 9, To: 5}
	top := newTop(t, 10)
	puts(t, top, early, inverted)
	has(t, top, 2, inverted, early)
}

// P18.1: every number of a violation has its bounds.
func TestBounds(t *testing.T) {
	for _, c := range []struct {
		least, most int
		set         func(v *api.Viol, n int)
	}{
		{1, 10, func(v *api.Viol, n int) { v.Kind = n }},
		{0, 1 << 40, func(v *api.Viol, n int) { v.Time = n }},
		{0, 1 << 40, func(v *api.Viol, n int) { v.From = n }},
		{0, 1 << 40, func(v *api.Viol, n int) { v.To = n }},
		{0, 4095, func(v *api.Viol, n int) { v.Txn = n }},
		{-1, 4095, func(v *api.Viol, n int) { v.Witness = n }},
		{-1, 15, func(v *api.Viol, n int) { v.Op = n }},
	} {
		for _, n := range []int{c.least, c.least + 1, c.most - 1, c.most} {
			valid(t, with(func(v *api.Viol) { c.set(v, n) }), true)
		}
		for _, n := range []int{c.least - 1, c.most + 1, math.MinInt, math.MaxInt} {
			valid(t, with(func(v *api.Viol) { c.set(v, n) }), false)
		}
	}
}

// P18.1: times needn't be in any order, and a witness may be the transaction
// itself: the order of the times and who stands beside whom is for the rules.
func TestUnbound(t *testing.T) {
	valid(t, with(func(v *api.Viol) { v.From, v.To = 9, 1 }), true)
	valid(t, with(func(v *api.Viol) { v.Witness = v.Txn }), true)
	for kind := 1; kind <= 10; kind++ {
		valid(t, with(func(v *api.Viol) { v.Kind = kind }), true)
		valid(t, api.Viol{Kind: kind}, true)
	}
}

// P18.1: texts have at most so many bytes, and stand only where there is a
// value; a value may be empty.
func TestTexts(t *testing.T) {
	for n, right := range map[int]bool{0: true, 1: true, 8: true, 9: false, 5000: false} {
		valid(t, with(func(v *api.Viol) { v.Key = strings.Repeat("k", n) }), right)
	}
	for n, right := range map[int]bool{0: true, 1: true, 16: true, 17: false, 5000: false} {
		text := strings.Repeat("v", n)
		valid(t, with(func(v *api.Viol) { v.Expected = text }), right)
		valid(t, with(func(v *api.Viol) { v.Observed = text }), right)
		valid(t, with(func(v *api.Viol) { v.Want, v.Expected = false, text }), n == 0)
		valid(t, with(func(v *api.Viol) { v.Got, v.Observed = false, text }), n == 0)
	}
	valid(t, with(func(v *api.Viol) { v.Want, v.Expected, v.Got, v.Observed = false, "", true, "" }), true)
	// Bytes count, not characters.
	valid(t, with(func(v *api.Viol) { v.Key = "\u00e9\u00e9\u00e9\u00e9" }), true)
	valid(t, with(func(v *api.Viol) { v.Key = "\u00e9\u00e9\u00e9\u00e9\u00e9" }), false)
	valid(t, with(func(v *api.Viol) { v.Key, v.Expected, v.Observed = "\x00\xff\n", "\xc3", "\x00" }), true)
}

// P18.1: Time counts first, then Kind, Txn and Op, each by the smaller number.
func TestOrder(t *testing.T) {
	fields := []func(v *api.Viol) *int{
		func(v *api.Viol) *int { return &v.Time },
		func(v *api.Viol) *int { return &v.Kind },
		func(v *api.Viol) *int { return &v.Txn },
		func(v *api.Viol) *int { return &v.Op },
	}
	for i, field := range fields {
		a, b := usual(), usual()
		*field(&b)++
		compared(t, a, b, -1)
		for _, later := range fields[i+1:] {
			*later(&a) += 5
		}
		compared(t, a, b, -1)
		*field(&a), *field(&b) = math.MinInt, math.MaxInt
		compared(t, a, b, -1)
	}
}

// P18.1: no other field counts, and violations needn't be right.
func TestOrderOfNoOtherField(t *testing.T) {
	a := usual()
	for _, change := range []func(v *api.Viol){
		func(v *api.Viol) {},
		func(v *api.Viol) { v.Witness = 9 },
		func(v *api.Viol) { v.Key = "b" },
		func(v *api.Viol) { v.Want = false },
		func(v *api.Viol) { v.Expected = "b" },
		func(v *api.Viol) { v.Got = false },
		func(v *api.Viol) { v.Observed = "b" },
		func(v *api.Viol) { v.From = 9 },
		func(v *api.Viol) { v.To = 9 },
	} {
		compared(t, a, with(change), 0)
	}
	compared(t, api.Viol{}, api.Viol{}, 0)
	compared(t, api.Viol{Op: -1}, api.Viol{}, -1)
	compared(t, api.Viol{Kind: -5, Key: strings.Repeat("k", 99)}, api.Viol{Kind: -6}, 1)
	compared(t, api.Viol{Time: math.MinInt}, api.Viol{Time: math.MaxInt}, -1)
}

// P18.1: a list in the order; those that the order doesn't tell apart stay.
func TestSort(t *testing.T) {
	sorted(t, nil)
	sorted(t, []api.Viol{})
	sorted(t, []api.Viol{usual()}, usual())
	sorted(t, []api.Viol{timed(2, ""), timed(1, "b"), timed(1, "a"), timed(1, "b"), timed(0, "z")},
		timed(0, "z"), timed(1, "b"), timed(1, "a"), timed(1, "b"), timed(2, ""))
	sorted(t, []api.Viol{{Op: 3}, {Time: -4}, {Kind: 99}, {Op: -7}}, api.Viol{Time: -4}, api.Viol{Op: -7}, api.Viol{Op: 3}, api.Viol{Kind: 99})
}

// P18.1: a long list in which many are alike stays as it stood.
func TestSortLong(t *testing.T) {
	var list []api.Viol
	for i := range 5000 {
		list = append(list, api.Viol{Kind: 1, Time: 3 - i%4, Witness: i})
	}
	for i, v := range viol.Sort(list) {
		if v.Time != i/1250 || v.Witness != i%1250*4+3-v.Time {
			t.Fatalf("at %d: %+v", i, v)
		}
	}
}

// P18.2: each kind at its place, all others at 0.
func TestTally(t *testing.T) {
	tallied(t, nil, [11]int{})
	tallied(t, []api.Viol{}, [11]int{})
	var list []api.Viol
	for kind := range 11 {
		for range kind {
			list = append(list, api.Viol{Kind: kind, Time: -1})
		}
	}
	tallied(t, list, [11]int{0, 1, 2, 3, 4, 5, 6, 7, 8, 9, 10})
	for _, kind := range []int{0, 11, -1, -8, 12, 256 + 8, math.MinInt, math.MaxInt} {
		tallied(t, []api.Viol{{Kind: kind}, {Kind: 10}}, [11]int{0: 1, 10: 1})
	}
}

// P18.3: the limits of a limit.
func TestNew(t *testing.T) {
	for _, limit := range []int{-1, -10000, 10001, math.MinInt, math.MaxInt} {
		if top, e := viol.New(limit); e != api.ErrMost || top != nil {
			t.Errorf("New(%d) = %v, %d", limit, top, e)
		}
	}
	for _, limit := range []int{0, 1, 9999, 10000} {
		has(t, newTop(t, limit), 0)
	}
}

// P18.3: what isn't right is refused, and nothing changes.
func TestWrongPuts(t *testing.T) {
	for _, limit := range []int{0, 1, 2, 3} {
		top := newTop(t, limit)
		refuses(t, top, api.Viol{})
		has(t, top, 0)
		puts(t, top, timed(5, "a"), timed(3, "b"))
		want := top.List()
		for _, v := range []api.Viol{
			{},
			{Kind: 11},
			{Kind: 1, Time: -1},
			{Kind: 1, Expected: "x"},
			{Kind: 1, Observed: "x"},
			{Kind: 1, Op: 16},
			{Kind: 1, Key: "123456789"},
		} {
			refuses(t, top, v)
			has(t, top, 2, want...)
		}
	}
}

// P18.3: those that the order doesn't tell apart are listed as they were put,
// and past the limit the later one of them goes.
func TestAlike(t *testing.T) {
	top := newTop(t, 3)
	puts(t, top, timed(2, "a"), timed(2, "b"), timed(2, "c"))
	has(t, top, 3, timed(2, "a"), timed(2, "b"), timed(2, "c"))
	puts(t, top, timed(2, "d"))
	has(t, top, 4, timed(2, "a"), timed(2, "b"), timed(2, "c"))
	puts(t, top, timed(1, "e"))
	has(t, top, 5, timed(1, "e"), timed(2, "a"), timed(2, "b"))
	puts(t, top, timed(1, "f"), timed(1, "g"))
	has(t, top, 7, timed(1, "e"), timed(1, "f"), timed(1, "g"))
	puts(t, top, timed(1, "g"), timed(0, "h"))
	has(t, top, 9, timed(0, "h"), timed(1, "e"), timed(1, "f"))

	one := newTop(t, 1)
	puts(t, one, timed(4, "a"), timed(4, "b"), timed(6, "c"))
	has(t, one, 3, timed(4, "a"))
	puts(t, one, timed(3, "d"))
	has(t, one, 4, timed(3, "d"))
}

// P18.3: a violation that is put twice counts and stands twice.
func TestTwice(t *testing.T) {
	top := newTop(t, 3)
	puts(t, top, usual(), usual())
	has(t, top, 2, usual(), usual())
}

// P18.3: every field of what was put is told again.
func TestWholeViolations(t *testing.T) {
	top := newTop(t, 1)
	puts(t, top, with(func(v *api.Viol) { v.Time = 8 }), usual())
	has(t, top, 2, usual())
}

// P18.3: the greatest limit, with as many, and with one more.
func TestMost(t *testing.T) {
	top := newTop(t, api.MaxList)
	for i := range api.MaxList {
		puts(t, top, timed(api.MaxList-i, ""))
	}
	list := top.List()
	if len(list) != api.MaxList || list[0].Time != 1 || list[api.MaxList-1].Time != api.MaxList || top.Total() != api.MaxList {
		t.Fatalf("%d are listed", len(list))
	}
	puts(t, top, timed(0, ""))
	list = top.List()
	for i, v := range list {
		if v.Time != i {
			t.Fatalf("at %d: %+v", i, v)
		}
	}
	if len(list) != api.MaxList || top.Total() != api.MaxList+1 {
		t.Errorf("%d of %d are listed", len(list), top.Total())
	}
}

// Tops have nothing in common.
func TestApart(t *testing.T) {
	a, b := newTop(t, 1), newTop(t, 1)
	puts(t, a, timed(1, "a"))
	has(t, b, 0)
	puts(t, b, timed(2, "b"), timed(3, "c"))
	has(t, a, 1, timed(1, "a"))
	has(t, b, 2, timed(2, "b"))
}

// What is handed in is not changed, its spare room neither; an answer is new
// memory, spare room too.
func TestOwnMemory(t *testing.T) {
	room := []api.Viol{timed(3, "c"), timed(1, "a"), timed(9, "spare"), timed(0, "spare")}
	before := slices.Clone(room)
	one, two := viol.Sort(room[:2]), viol.Sort(room[:2])
	viol.Tally(room[:2])
	if !slices.Equal(room, before) {
		t.Errorf("the argument has become %+v", room)
	}
	keep := slices.Clone(two)
	clear(one[:cap(one)])
	clear(room)
	if !slices.Equal(two, keep) {
		t.Errorf("lists share memory: %+v", two)
	}
	alone := viol.Sort(before[1:2])
	alone[0] = usual()
	_ = append(alone, usual())
	if before[1] != timed(1, "a") || before[2] != timed(9, "spare") {
		t.Errorf("an answer shares memory with its argument: %+v", before)
	}
}

// A list of a top is the caller's own.
func TestOwnLists(t *testing.T) {
	top := newTop(t, 3)
	puts(t, top, timed(3, "c"), timed(1, "a"))
	one, two := top.List(), top.List()
	clear(one[:cap(one)])
	if !slices.Equal(two, []api.Viol{timed(1, "a"), timed(3, "c")}) {
		t.Errorf("lists share memory: %+v", two)
	}
	has(t, top, 2, timed(1, "a"), timed(3, "c"))
	puts(t, top, timed(2, "b"))
	clear(two[:cap(two)])
	has(t, top, 3, timed(1, "a"), timed(2, "b"), timed(3, "c"))
}
