package chain_test

import (
	"testing"

	"proctor/api"
	"proctor/chain"
)

// dice is a source of numbers that is the same in every run.
type dice uint64

func (d *dice) below(n int) int {
	*d = *d*6364136223846793005 + 1442695040888963407
	return int(uint64(*d) >> 33 % uint64(n))
}

// names are in the order of their bytes.
var names = []string{"\x00", "a", "a\x00", "b", "\xff"}

// version gives versions near a time; a few aren't right.
func (d *dice) version(time int) chain.Version {
	v := chain.Version{Commit: time + d.below(5) - 2, Writer: d.below(4), Found: d.below(3) > 0}
	if v.Found || d.below(20) == 0 {
		v.Value = "values that are too long"[:d.below(api.MaxValue+2)]
	}
	return v
}

// entry is a version with its key. The model has all of them in one list, as
// they were installed, and goes through the whole of it for each answer.
type entry struct {
	key string
	chain.Version
}

type model []entry

// number is a version's place in its chain's order.
func number(v chain.Version) int { return v.Commit*api.MaxTxns + v.Writer }

func (m model) install(key string, v chain.Version) (model, api.Errno) {
	if v.Commit < 0 || len(v.Value) > 16 || !v.Found && v.Value != "" {
		return m, api.ErrVersion
	}
	for _, x := range m {
		if x.key == key && number(x.Version) >= number(v) {
			return m, api.ErrStale
		}
	}
	return append(m, entry{key, v}), api.OK
}

// at and after give none, or one.
func (m model) at(key string, time int) []chain.Version {
	var found []chain.Version
	for _, x := range m {
		if x.key == key && x.Commit <= time && (found == nil || number(x.Version) > number(found[0])) {
			found = []chain.Version{x.Version}
		}
	}
	return found
}

func (m model) after(key string, time int) []chain.Version {
	var found []chain.Version
	for _, x := range m {
		if x.key == key && x.Commit > time && (found == nil || number(x.Version) < number(found[0])) {
			found = []chain.Version{x.Version}
		}
	}
	return found
}

func (m model) chain(key string) []chain.Version {
	var list []chain.Version
	for _, x := range m {
		if x.key == key {
			list = append(list, x.Version)
		}
	}
	return list
}

func (m model) keys() []string {
	var list []string
	for _, key := range names {
		if len(m.chain(key)) > 0 {
			list = append(list, key)
		}
	}
	return list
}

func (m model) prune(floor int) model {
	var kept model
	for _, x := range m {
		goes := false
		for _, y := range m {
			goes = goes || x.key == y.key && number(y.Version) > number(x.Version) && y.Commit <= floor
		}
		if !goes {
			kept = append(kept, x)
		}
	}
	return kept
}

// look holds all that a store tells of itself against the model.
func look(t *testing.T, s *chain.Store, m model, from, to int) {
	t.Helper()
	keys(t, s, len(m), m.keys()...)
	for _, key := range names {
		has(t, s, key, m.chain(key)...)
		for time := from; time <= to; time++ {
			sees(t, s, key, time, m.at(key, time)...)
			seesAfter(t, s, key, time, m.after(key, time)...)
		}
	}
}

// All promises: a store answers as the model, and at or above a floor as the
// model did ahead of the prune.
func TestModel(t *testing.T) {
	d := dice(13)
	seen := map[api.Errno]int{}
	gone := 0
	for round := range 100 {
		s, m := chain.New(), model(nil)
		for step := range 60 {
			if d.below(6) == 0 {
				floor := step/2 - d.below(12)
				before := m
				m = m.prune(floor)
				prunes(t, s, floor, len(before)-len(m))
				gone += len(before) - len(m)
				for _, key := range names {
					sees(t, s, key, floor, before.at(key, floor)...)
					seesAfter(t, s, key, floor, before.after(key, floor)...)
				}
			}
			key, v := names[d.below(1+round%len(names))], d.version(step/2)
			var want api.Errno
			m, want = m.install(key, v)
			installs(t, s, key, v, want)
			seen[want]++
			if step%7 == 0 {
				look(t, s, m, -3, step/2+3)
			}
		}
		look(t, s, m, -3, 40)
	}
	for _, e := range []api.Errno{api.OK, api.ErrVersion, api.ErrStale} {
		if seen[e] < 100 {
			t.Errorf("error %d was seen %d times only", e, seen[e])
		}
	}
	if gone < 100 {
		t.Errorf("%d versions were pruned only", gone)
	}
}
