package chain_test

import (
	"math"
	"slices"
	"strings"
	"testing"

	"proctor/api"
	"proctor/chain"
)

// wrote is a version with a value; deleted is one without.
func wrote(commit, writer int, value string) chain.Version {
	return chain.Version{Commit: commit, Writer: writer, Found: true, Value: value}
}

func deleted(commit, writer int) chain.Version {
	return chain.Version{Commit: commit, Writer: writer}
}

func installs(t *testing.T, s *chain.Store, key string, v chain.Version, want api.Errno) {
	t.Helper()
	if e := s.Install(key, v); e != want {
		t.Fatalf("Install(%q, %v) = %d; want %d", key, v, e, want)
	}
}

// sees looks at At, seesAfter at After; want is nothing, or the one version.
func sees(t *testing.T, s *chain.Store, key string, time int, want ...chain.Version) {
	t.Helper()
	v, ok := s.At(key, time)
	looksLike(t, "At", key, time, v, ok, want)
}

func seesAfter(t *testing.T, s *chain.Store, key string, time int, want ...chain.Version) {
	t.Helper()
	v, ok := s.After(key, time)
	looksLike(t, "After", key, time, v, ok, want)
}

func looksLike(t *testing.T, call, key string, time int, v chain.Version, ok bool, want []chain.Version) {
	t.Helper()
	one := chain.Version{}
	if len(want) > 0 {
		one = want[0]
	}
	if v != one || ok != (len(want) > 0) {
		t.Errorf("%s(%q, %d) = %v, %t; want %v", call, key, time, v, ok, want)
	}
}

func has(t *testing.T, s *chain.Store, key string, want ...chain.Version) {
	t.Helper()
	if got := s.Chain(key); !slices.Equal(got, want) {
		t.Errorf("Chain(%q) = %v; want %v", key, got, want)
	}
}

// keys looks at the keys, and at how many versions they have in all.
func keys(t *testing.T, s *chain.Store, count int, want ...string) {
	t.Helper()
	if got := s.Keys(); !slices.Equal(got, want) {
		t.Errorf("Keys = %q; want %q", got, want)
	}
	if n := s.Count(); n != count {
		t.Errorf("Count = %d; want %d", n, count)
	}
}

func prunes(t *testing.T, s *chain.Store, floor int, want int) {
	t.Helper()
	if n := s.Prune(floor); n != want {
		t.Errorf("Prune(%d) = %d; want %d", floor, n, want)
	}
}

// first is the store of the chapter's first example.
func first(t *testing.T) *chain.Store {
	t.Helper()
	s := chain.New()
	installs(t, s, "a", deleted(5, 1), api.OK)
	installs(t, s, "a", deleted(7, 0), api.OK)
	installs(t, s, "a", deleted(7, 2), api.OK)
	installs(t, s, "b", deleted(6, 3), api.OK)
	installs(t, s, "a", deleted(7, 1), api.ErrStale)
	return s
}

// The chapter's examples.
func TestExamples(t *testing.T) {
	s := first(t)
	sees(t, s, "a", 7, deleted(7, 2))
	sees(t, s, "a", 6, deleted(5, 1))
	sees(t, s, "a", 4)
	seesAfter(t, s, "a", 5, deleted(7, 0))
	keys(t, s, 4, "a", "b")
	prunes(t, s, 7, 2)
	has(t, s, "a", deleted(7, 2))
	prunes(t, first(t), 6, 0)
}

// P13.1: a new store has nothing, and can be asked for anything.
func TestEmpty(t *testing.T) {
	s := chain.New()
	if s == nil {
		t.Fatal("New = nil")
	}
	for _, key := range []string{"", "a", "\x00", strings.Repeat("k", api.MaxKey+1), strings.Repeat("k", 100000)} {
		for _, time := range []int{math.MinInt, -1, 0, 1, api.MaxTime, math.MaxInt} {
			sees(t, s, key, time)
			seesAfter(t, s, key, time)
			prunes(t, s, time, 0)
		}
		has(t, s, key)
	}
	keys(t, s, 0)
}

// P13.1: keys have from 1 to MaxKey bytes, whichever they are.
func TestKeyBounds(t *testing.T) {
	for _, key := range []string{"a", "\x00", "\xff", "\x80\x00", " ", "\n", strings.Repeat("k", api.MaxKey-1), strings.Repeat("\xff", api.MaxKey)} {
		s := chain.New()
		installs(t, s, key, wrote(1, 1, "x"), api.OK)
		sees(t, s, key, 1, wrote(1, 1, "x"))
		keys(t, s, 1, key)
	}
	for _, key := range []string{"", strings.Repeat("k", api.MaxKey+1), strings.Repeat("\x00", api.MaxKey+1), strings.Repeat("k", api.MaxKey+256), strings.Repeat("k", 1<<16)} {
		s := chain.New()
		installs(t, s, key, wrote(1, 1, "x"), api.ErrKey)
		has(t, s, key)
		keys(t, s, 0)
	}
}

// wrongVersions lists versions of which one thing each isn't right.
func wrongVersions() []chain.Version {
	list := []chain.Version{
		{Commit: 9, Writer: 9, Value: "v"},
		{Commit: 9, Writer: 9, Value: "\x00"},
		wrote(9, 9, strings.Repeat("v", api.MaxValue+1)),
		wrote(9, 9, strings.Repeat("v", api.MaxValue+256)),
		{Commit: 9, Writer: 9, Value: strings.Repeat("v", api.MaxValue+1)},
	}
	for _, n := range []int{-1, api.MaxTime + 1, 2 * api.MaxTime, 1 << 56, math.MinInt, math.MaxInt} {
		list = append(list, wrote(n, 9, "v"), deleted(n, 9))
	}
	for _, n := range []int{-1, api.MaxTxns, api.MaxTxns + 1, 1<<32 + 9, math.MinInt, math.MaxInt} {
		list = append(list, wrote(9, n, "v"), deleted(9, n))
	}
	return list
}

// P13.1: each field is right up to its bounds, and not past them.
func TestVersionBounds(t *testing.T) {
	for _, v := range []chain.Version{
		{},
		deleted(api.MaxTime, api.MaxTxns-1),
		wrote(0, 0, ""),
		wrote(0, api.MaxTxns-1, "\x00"),
		wrote(api.MaxTime, 0, strings.Repeat("\xff", api.MaxValue)),
		wrote(api.MaxTime-1, api.MaxTxns-2, strings.Repeat("v", api.MaxValue-1)),
	} {
		s := chain.New()
		installs(t, s, "a", v, api.OK)
		has(t, s, "a", v)
		sees(t, s, "a", v.Commit, v)
		sees(t, s, "a", v.Commit-1)
		seesAfter(t, s, "a", v.Commit)
		seesAfter(t, s, "a", v.Commit-1, v)
	}
	for _, v := range wrongVersions() {
		s := chain.New()
		installs(t, s, "a", v, api.ErrVersion)
		has(t, s, "a")
		keys(t, s, 0)
	}
}

// P13.1: what comes behind the last version has a greater commit, or the same
// and a greater writer; what the versions hold doesn't count.
func TestStale(t *testing.T) {
	last := wrote(7, 3, "m")
	for _, v := range []chain.Version{
		last, wrote(7, 3, "z"), wrote(7, 3, ""), deleted(7, 3), deleted(7, 2), wrote(7, 0, "z"),
		deleted(6, 4), wrote(6, api.MaxTxns-1, "z"), deleted(0, 0), wrote(0, api.MaxTxns-1, "z"),
	} {
		s := chain.New()
		installs(t, s, "a", last, api.OK)
		installs(t, s, "a", v, api.ErrStale)
		has(t, s, "a", last)
		keys(t, s, 1, "a")
		installs(t, s, "b", v, api.OK)
	}
	for _, v := range []chain.Version{
		deleted(7, 4), wrote(7, api.MaxTxns-1, ""), deleted(8, 0), wrote(8, 3, "m"), wrote(api.MaxTime, 0, "a"),
	} {
		s := chain.New()
		installs(t, s, "a", last, api.OK)
		installs(t, s, "a", v, api.OK)
		has(t, s, "a", last, v)
		keys(t, s, 2, "a")
	}
}

// P13.1: it is the last version that counts, not one ahead of it.
func TestStaleBehindSeveral(t *testing.T) {
	s := chain.New()
	installs(t, s, "a", deleted(2, 5), api.OK)
	installs(t, s, "a", deleted(9, 0), api.OK)
	installs(t, s, "a", deleted(5, 7), api.ErrStale)
	installs(t, s, "a", deleted(9, 0), api.ErrStale)
	has(t, s, "a", deleted(2, 5), deleted(9, 0))
}

// P13.1: of several errors the first is told.
func TestErrorOrder(t *testing.T) {
	s := chain.New()
	installs(t, s, "a", deleted(api.MaxTime, api.MaxTxns-1), api.OK)
	for _, v := range wrongVersions() {
		installs(t, s, "", v, api.ErrKey)
		installs(t, s, strings.Repeat("k", api.MaxKey+1), v, api.ErrKey)
		installs(t, s, "a", v, api.ErrVersion)
	}
	installs(t, s, "a", deleted(api.MaxTime, api.MaxTxns-1), api.ErrStale)
	has(t, s, "a", deleted(api.MaxTime, api.MaxTxns-1))
	keys(t, s, 1, "a")
}

// P13.2: the looks at each time around the versions, several of one commit too.
func TestLooks(t *testing.T) {
	s := chain.New()
	list := []chain.Version{wrote(0, 1, ""), wrote(0, 4, "b"), deleted(3, 9), wrote(5, 0, "c"), deleted(5, 2), wrote(5, 7, "d"), deleted(api.MaxTime, 0)}
	for _, v := range list {
		installs(t, s, "k", v, api.OK)
	}
	for _, c := range []struct{ time, at, after int }{
		{math.MinInt, -1, 0}, {-1, -1, 0}, {0, 1, 2}, {1, 1, 2}, {2, 1, 2}, {3, 2, 3}, {4, 2, 3}, {5, 5, 6}, {6, 5, 6},
		{api.MaxTime - 1, 5, 6}, {api.MaxTime, 6, 7}, {api.MaxTime + 1, 6, 7}, {math.MaxInt, 6, 7},
	} {
		sees(t, s, "k", c.time, list[max(c.at, 0):c.at+1]...)
		seesAfter(t, s, "k", c.time, list[c.after:min(c.after+1, len(list))]...)
		for _, other := range []string{"", "K", "k\x00", "kk", "kkkkkkkkk"} {
			sees(t, s, other, c.time)
			seesAfter(t, s, other, c.time)
		}
	}
	has(t, s, "k", list...)
}

// P13.3: keys come by their bytes, in whichever order they were installed.
func TestKeysInOrder(t *testing.T) {
	want := []string{"\x00", "\x00\x00", "A", "Z", "a", "a\x00", "aa", "a\xff", "b", "\x7f", "\x80", "\xc3\xa4", "\xff"}
	// The number of the keys is a prime, so each step comes to all of them.
	for step := 1; step < len(want); step++ {
		s := chain.New()
		for i := range want {
			n := i * step % len(want)
			installs(t, s, want[n], deleted(step, n), api.OK)
		}
		keys(t, s, len(want), want...)
		for n, key := range want {
			has(t, s, key, deleted(step, n))
		}
	}
}

// P13.3: keys that are refused aren't keys; a key stays one with each version.
func TestKeysOfRefused(t *testing.T) {
	s := chain.New()
	installs(t, s, "b", wrote(-1, 0, ""), api.ErrVersion)
	installs(t, s, "", wrote(1, 0, ""), api.ErrKey)
	keys(t, s, 0)
	for n := range 5 {
		installs(t, s, "a", deleted(n, 0), api.OK)
		installs(t, s, "a", deleted(n, 0), api.ErrStale)
		keys(t, s, n+1, "a")
	}
}

// P13.4: of those at or below the floor the greatest stays, and so does all above it.
func TestPrune(t *testing.T) {
	list := []chain.Version{wrote(2, 3, "a"), deleted(4, 0), wrote(4, 1, "b"), wrote(4, 8, "c"), deleted(9, 0), wrote(9, 1, "d"), deleted(12, 0)}
	for _, c := range []struct{ floor, gone int }{
		{math.MinInt, 0}, {-1, 0}, {0, 0}, {1, 0}, {2, 0}, {3, 0}, {4, 3}, {5, 3}, {8, 3}, {9, 5}, {11, 5}, {12, 6}, {13, 6},
		{api.MaxTime, 6}, {api.MaxTime + 1, 6}, {math.MaxInt, 6},
	} {
		s := chain.New()
		for _, v := range list {
			installs(t, s, "k", v, api.OK)
		}
		prunes(t, s, c.floor, c.gone)
		has(t, s, "k", list[c.gone:]...)
		keys(t, s, len(list)-c.gone, "k")
		prunes(t, s, c.floor, 0)
		prunes(t, s, math.MinInt, 0)
		has(t, s, "k", list[c.gone:]...)
		prunes(t, s, math.MaxInt, len(list)-1-c.gone)
		has(t, s, "k", list[len(list)-1])
	}
}

// P13.4: one version alone stays, a delete too, wherever the floor is.
func TestPruneKeepsOne(t *testing.T) {
	s := chain.New()
	installs(t, s, "a", deleted(0, 0), api.OK)
	installs(t, s, "b", wrote(api.MaxTime, 0, "x"), api.OK)
	for _, floor := range []int{math.MinInt, -1, 0, 1, api.MaxTime, math.MaxInt} {
		prunes(t, s, floor, 0)
	}
	has(t, s, "a", deleted(0, 0))
	has(t, s, "b", wrote(api.MaxTime, 0, "x"))
	keys(t, s, 2, "a", "b")
}

// P13.4: the answer is the sum over all keys, each pruned by its own versions.
func TestPruneSeveralKeys(t *testing.T) {
	s := chain.New()
	for n := range 10 {
		installs(t, s, "a", deleted(n, 0), api.OK)
		installs(t, s, "b", deleted(2*n, 1), api.OK)
		installs(t, s, "c", deleted(100+n, 2), api.OK)
	}
	installs(t, s, "d", deleted(5, 3), api.OK)
	prunes(t, s, 9, 9+4)
	has(t, s, "a", deleted(9, 0))
	has(t, s, "b", deleted(8, 1), deleted(10, 1), deleted(12, 1), deleted(14, 1), deleted(16, 1), deleted(18, 1))
	keys(t, s, 31-13, "a", "b", "c", "d")
	prunes(t, s, 17, 4)
	prunes(t, s, 103, 1+3)
	keys(t, s, 10, "a", "b", "c", "d")
	prunes(t, s, 200, 6)
	keys(t, s, 4, "a", "b", "c", "d")
}

// P13.4: what may be installed hangs on the last version, which never goes;
// a chain that has come down to one version grows and is pruned again.
func TestInstallBehindPrune(t *testing.T) {
	s := chain.New()
	for n := 1; n <= 20; n++ {
		installs(t, s, "a", wrote(n, 5, "v"), api.OK)
		if n > 1 {
			prunes(t, s, n-1, 0)
			prunes(t, s, n, 1)
		}
		installs(t, s, "a", wrote(n, 5, "w"), api.ErrStale)
		installs(t, s, "a", wrote(n-1, 6, "w"), api.ErrStale)
		has(t, s, "a", wrote(n, 5, "v"))
		sees(t, s, "a", n-1)
		keys(t, s, 1, "a")
	}
	prunes(t, s, api.MaxTime, 0)
	installs(t, s, "a", wrote(20, 6, "w"), api.OK)
	installs(t, s, "a", wrote(21, 0, "x"), api.OK)
	has(t, s, "a", wrote(20, 5, "v"), wrote(20, 6, "w"), wrote(21, 0, "x"))
}

// P13.4: a floor bars no install below it where the chain is behind it or new.
func TestInstallBelowFloor(t *testing.T) {
	s := chain.New()
	installs(t, s, "a", deleted(1, 0), api.OK)
	prunes(t, s, 50, 0)
	installs(t, s, "a", deleted(2, 0), api.OK)
	installs(t, s, "b", deleted(3, 0), api.OK)
	sees(t, s, "a", 1, deleted(1, 0))
	prunes(t, s, 50, 1)
	has(t, s, "a", deleted(2, 0))
}

// An answer is new memory: who changes it changes neither the store nor another
// answer, and what the store does later doesn't change it.
func TestOwnMemory(t *testing.T) {
	s := chain.New()
	var want []chain.Version
	for n := range 5 {
		want = append(want, wrote(n, n, "v"))
		installs(t, s, "a", want[n], api.OK)
		installs(t, s, "b", want[n], api.OK)
	}
	spoiled, kept := s.Chain("a"), s.Chain("a")
	spoiled = spoiled[:cap(spoiled)]
	for i := range spoiled {
		spoiled[i] = deleted(-7, -7)
	}
	has(t, s, "a", want...)
	names, others := s.Keys(), s.Keys()
	names = names[:cap(names)]
	for i := range names {
		names[i] = "spoiled"
	}
	keys(t, s, 10, "a", "b")
	installs(t, s, "a", wrote(5, 5, "v"), api.OK)
	prunes(t, s, 3, 6)
	has(t, s, "a", wrote(3, 3, "v"), wrote(4, 4, "v"), wrote(5, 5, "v"))
	if !slices.Equal(kept, want) || !slices.Equal(others, []string{"a", "b"}) {
		t.Errorf("answers changed: %v, %q", kept, others)
	}
	_ = append(kept[:2], deleted(-7, -7))
	has(t, s, "a", wrote(3, 3, "v"), wrote(4, 4, "v"), wrote(5, 5, "v"))
}

// Two stores know nothing of each other.
func TestTwoStores(t *testing.T) {
	a, b := chain.New(), chain.New()
	installs(t, a, "k", deleted(5, 0), api.OK)
	installs(t, b, "k", deleted(3, 0), api.OK)
	installs(t, b, "k", deleted(4, 0), api.OK)
	prunes(t, a, 9, 0)
	has(t, b, "k", deleted(3, 0), deleted(4, 0))
	keys(t, a, 1, "k")
	keys(t, b, 2, "k")
}

// As many keys and versions as a log's transactions can write.
func TestMany(t *testing.T) {
	s := chain.New()
	name := func(n int) string { return string([]byte{'k', byte(n >> 8), byte(n)}) }
	for n := range 1 << 16 {
		installs(t, s, name(n), wrote(n/api.MaxOps, n/api.MaxOps, "v"), api.OK)
	}
	for writer := range api.MaxTxns {
		installs(t, s, "k", wrote(writer, writer, "v"), api.OK)
		prunes(t, s, writer-100, min(max(writer-100, 0), 1))
	}
	if n := len(s.Chain("k")); n != 101 || s.Count() != 1<<16+101 || len(s.Keys()) != 1<<16+1 {
		t.Errorf("%d versions of k, %d in all, %d keys", n, s.Count(), len(s.Keys()))
	}
	sees(t, s, "k", api.MaxTxns-50, wrote(api.MaxTxns-50, api.MaxTxns-50, "v"))
}
