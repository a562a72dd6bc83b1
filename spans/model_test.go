package spans_test

import (
	"testing"

	"proctor/api"
	"proctor/spans"
)

// dice is a source of numbers that is the same in every run.
type dice uint64

func (d *dice) below(n int) int {
	*d = *d*6364136223846793005 + 1442695040888963407
	return int(uint64(*d) >> 33 % uint64(n))
}

var names = []string{"\x00", "a", "a\x00", "b", "\xff"}

// span gives spans near a time; a few aren't right.
func (d *dice) span(time int) spans.Span {
	from := time + d.below(6) - 2
	return span(from, from+d.below(10)-1, d.below(3))
}

// entry is a span with its key. The model has all of them in one list, sorted by
// what the order of the spans looks at, and goes through the whole of it for
// each answer.
type entry struct {
	key string
	spans.Span
}

type model []entry

// number is a span's place in its key's order, for the spans of the dice.
func number(s spans.Span) int { return s.From*1000000 + s.To*1000 + s.Id }

func (m model) insert(key string, s spans.Span) (model, api.Errno) {
	if s.From < 0 || s.From > s.To {
		return m, api.ErrSpan
	}
	var longer model
	for _, x := range m {
		if x == (entry{key, s}) {
			return m, api.ErrTwice
		}
		if number(x.Span) < number(s) {
			longer = append(longer, x)
		}
	}
	longer = append(longer, entry{key, s})
	for _, x := range m {
		if number(x.Span) >= number(s) {
			longer = append(longer, x)
		}
	}
	return longer, api.OK
}

func (m model) without(goes func(x entry) bool) model {
	var kept model
	for _, x := range m {
		if !goes(x) {
			kept = append(kept, x)
		}
	}
	return kept
}

func (m model) overlap(key string, from, to int) []spans.Span {
	var list []spans.Span
	for _, x := range m {
		if x.key == key && x.From < to && x.To > from {
			list = append(list, x.Span)
		}
	}
	return list
}

// first gives none, or one.
func (m model) first(key string, from, to int) []spans.Span {
	rank := func(s spans.Span) int { return s.To*1000000 + s.Id*1000 + s.From }
	var found []spans.Span
	for _, s := range m.overlap(key, from, to) {
		if found == nil || rank(s) < rank(found[0]) {
			found = []spans.Span{s}
		}
	}
	return found
}

// look holds all that a forest tells of itself against the model.
func look(t *testing.T, f *spans.Forest, m model, low, high int) {
	t.Helper()
	counts(t, f, len(m))
	for _, key := range names {
		has(t, f, key, m.overlap(key, -1, 1000)...)
		for from := low; from <= high; from++ {
			for to := low; to <= high; to++ {
				overlaps(t, f, key, from, to, m.overlap(key, from, to)...)
				firsts(t, f, key, from, to, m.first(key, from, to)...)
			}
		}
	}
}

// All promises: a forest answers as the model.
func TestModel(t *testing.T) {
	d := dice(14)
	seen := map[api.Errno]int{}
	removed, gone := 0, 0
	for round := range 60 {
		f, m := spans.New(), model(nil)
		few := 1 + round%len(names)
		for step := range 150 {
			time := step / 6
			key, s := names[d.below(few)], d.span(time)
			switch d.below(9) {
			case 0:
				floor := time - d.below(12)
				shorter := m.without(func(x entry) bool { return x.To <= floor })
				drops(t, f, floor, len(m)-len(shorter))
				gone += len(m) - len(shorter)
				m = shorter
			case 1, 2:
				if len(m) > 0 && d.below(3) > 0 {
					x := m[d.below(len(m))]
					key, s = x.key, x.Span
				}
				shorter := m.without(func(x entry) bool { return x == entry{key, s} })
				removes(t, f, key, s, len(shorter) < len(m))
				removed += len(m) - len(shorter)
				m = shorter
			default:
				var want api.Errno
				m, want = m.insert(key, s)
				inserts(t, f, key, s, want)
				seen[want]++
			}
			if step%15 == 0 {
				look(t, f, m, time-4, time+6)
			}
		}
		look(t, f, m, -2, 40)
	}
	for _, e := range []api.Errno{api.OK, api.ErrSpan, api.ErrTwice} {
		if seen[e] < 100 {
			t.Errorf("error %d was seen %d times only", e, seen[e])
		}
	}
	if removed < 100 || gone < 100 {
		t.Errorf("%d spans were removed, %d dropped only", removed, gone)
	}
}
