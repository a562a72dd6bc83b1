package adya_test

import (
	"slices"
	"strings"
	"testing"

	"proctor/adya"
	"proctor/api"
	"proctor/machine"
)

func found(key, value string) api.Op {
	return api.Op{Kind: api.OpRead, Key: key, Found: true, Value: value}
}

func missed(key string) api.Op { return api.Op{Kind: api.OpRead, Key: key} }

func write(key, value string) api.Op {
	return api.Op{Kind: api.OpWrite, Key: key, Found: true, Value: value}
}

func remove(key string) api.Op { return api.Op{Kind: api.OpDelete, Key: key} }

func commit(start, end int, ops ...api.Op) api.Txn {
	return api.Txn{Start: start, End: end, Status: api.Committed, Ops: ops}
}

func abort(start, end int, ops ...api.Op) api.Txn {
	return api.Txn{Start: start, End: end, Status: api.Aborted, Ops: ops}
}

func dep(kind, from, to int, key string) adya.Dep {
	return adya.Dep{Kind: kind, From: from, To: to, Key: key}
}

func wantDeps(t *testing.T, list []api.Txn, want ...adya.Dep) {
	t.Helper()
	if got, e := adya.Deps(list); e != api.OK || !slices.Equal(got, want) {
		t.Errorf("Deps %v, %d, want %v", got, e, want)
	}
}

func wantPhenomena(t *testing.T, list []api.Txn, want ...int) {
	t.Helper()
	if got, e := adya.Phenomena(list); e != api.OK || !slices.Equal(got, want) {
		t.Errorf("Phenomena %v, %d, want %v", got, e, want)
	}
}

func wantSerial(t *testing.T, list []api.Txn, want ...int) {
	t.Helper()
	if got, ok, e := adya.Serial(list); e != api.OK || !ok || !slices.Equal(got, want) {
		t.Errorf("Serial %v, %t, %d, want %v", got, ok, e, want)
	}
}

func wantNoSerial(t *testing.T, list []api.Txn) {
	t.Helper()
	if got, ok, e := adya.Serial(list); e != api.OK || ok || len(got) != 0 {
		t.Errorf("Serial %v, %t, %d, want none", got, ok, e)
	}
}

func wantError(t *testing.T, list []api.Txn, want api.Errno) {
	t.Helper()
	if got, e := adya.Deps(list); e != want || len(got) != 0 {
		t.Errorf("Deps %v, %d, want %d", got, e, want)
	}
	if got, e := adya.Phenomena(list); e != want || len(got) != 0 {
		t.Errorf("Phenomena %v, %d, want %d", got, e, want)
	}
	if got, ok, e := adya.Serial(list); e != want || ok || len(got) != 0 {
		t.Errorf("Serial %v, %t, %d, want %d", got, ok, e, want)
	}
}

// P20.2 to P20.4: example 1, write skew.
func TestWriteSkew(t *testing.T) {
	list := []api.Txn{
		commit(1, 5, missed("a"), write("b", "x")),
		commit(2, 6, missed("b"), write("a", "y")),
	}
	wantDeps(t, list, dep(adya.DepRW, 0, 1, "a"), dep(adya.DepRW, 1, 0, "b"))
	wantPhenomena(t, list)
	wantNoSerial(t, list)
}

// P20.2 to P20.4: example 2, a lost update.
func TestLostUpdate(t *testing.T) {
	list := []api.Txn{
		commit(1, 5, missed("a"), write("a", "x")),
		commit(2, 6, missed("a"), write("a", "y")),
	}
	wantDeps(t, list, dep(adya.DepWW, 0, 1, "a"), dep(adya.DepRW, 1, 0, "a"))
	wantPhenomena(t, list, adya.PhGSIa, adya.PhGSIb)
	wantNoSerial(t, list)
}

// The examples of the whole, as far as they are of this layer.
func TestWhole(t *testing.T) {
	first := commit(1, 4, write("a", "x"))
	cases := []struct {
		list      []api.Txn
		deps      []adya.Dep
		phenomena []int
		serial    []int
	}{
		{list: nil},
		{list: []api.Txn{first, abort(3, 7, missed("a"), write("a", "y"))}, serial: []int{0}},
		{list: []api.Txn{first, commit(5, 7, missed("a"))},
			deps: []adya.Dep{dep(adya.DepWR, 0, 1, "a")}, phenomena: []int{adya.PhMisread}, serial: []int{0, 1}},
		{list: []api.Txn{commit(5, 5)}},
		{list: []api.Txn{commit(1, 9), commit(5, 8)}, serial: []int{0, 1}},
	}
	for _, c := range cases {
		wantDeps(t, c.list, c.deps...)
		wantPhenomena(t, c.list, c.phenomena...)
		wantSerial(t, c.list, c.serial...)
	}
	lost := []api.Txn{first, commit(3, 7, missed("a"), write("a", "y"))}
	wantDeps(t, lost, dep(adya.DepWW, 0, 1, "a"), dep(adya.DepRW, 1, 0, "a"))
	wantPhenomena(t, lost, adya.PhGSIa, adya.PhGSIb)
	wantNoSerial(t, lost)
}

// P20.1: how many transactions are too many, ahead of what is wrong in them.
func TestLarge(t *testing.T) {
	list := make([]api.Txn, api.MaxHistory)
	wantDeps(t, list)
	wantPhenomena(t, list)
	wantSerial(t, list)
	wantError(t, make([]api.Txn, api.MaxHistory+1), api.ErrLarge)
	wrong := make([]api.Txn, api.MaxHistory+1)
	wrong[0].Status = 2
	wantError(t, wrong, api.ErrLarge)
	wantError(t, wrong[:api.MaxHistory], api.ErrField)
}

// P20.1: the first wrong transaction is told, whether it is of the history or not.
func TestWrong(t *testing.T) {
	right := commit(1, 2, write("a", "x"))
	field := api.Txn{Status: 2}
	ops := commit(1, 2, make([]api.Op, api.MaxOps+1)...)
	op := commit(1, 2, api.Op{Kind: api.OpWrite, Key: "a"})
	cases := []struct {
		list []api.Txn
		want api.Errno
	}{
		{[]api.Txn{field}, api.ErrField},
		{[]api.Txn{ops}, api.ErrOps},
		{[]api.Txn{op}, api.ErrOp},
		{[]api.Txn{right, op, field}, api.ErrOp},
		{[]api.Txn{right, ops, op}, api.ErrOps},
		{[]api.Txn{right, field, ops, op}, api.ErrField},
		{[]api.Txn{right, right, right, op}, api.ErrOp},
		{[]api.Txn{right, abort(1, 2, missed(""))}, api.ErrOp},
		{[]api.Txn{commit(3, 2, missed(strings.Repeat("k", api.MaxKey+1)))}, api.ErrOp},
		{[]api.Txn{commit(3, -1)}, api.ErrField},
		{[]api.Txn{commit(api.MaxTime+1, 2)}, api.ErrField},
		{[]api.Txn{commit(1, 2, write("a", strings.Repeat("v", api.MaxValue+1)))}, api.ErrOp},
		{[]api.Txn{commit(1, 2, api.Op{Kind: api.OpDelete, Key: "a", Found: true})}, api.ErrOp},
	}
	for _, c := range cases {
		wantError(t, c.list, c.want)
	}
	many := slices.Repeat([]api.Txn{right}, api.MaxHistory)
	many[100], many[101] = op, field
	for range 20 {
		wantError(t, many, api.ErrOp)
	}
}

// P20.2: the history is what is committed and starts below its end.
func TestHistory(t *testing.T) {
	list := []api.Txn{
		commit(1, 3, write("a", "x")),
		abort(2, 4, write("a", "y")),
		commit(4, 4, write("a", "z")),
		commit(5, 4, write("a", "z")),
		commit(4, 5, found("a", "x"), write("a", "y")),
		abort(6, 7, found("a", "y")),
		commit(7, 7, found("a", "y")),
	}
	wantDeps(t, list, dep(adya.DepWW, 0, 4, "a"), dep(adya.DepWR, 0, 4, "a"))
	wantPhenomena(t, list)
	wantSerial(t, list, 0, 4)
}

// P20.2: versions are in the order of the ends, then of the places.
func TestVersions(t *testing.T) {
	list := []api.Txn{
		commit(8, 9, write("a", "3")),
		commit(1, 5, remove("a")),
		commit(2, 5, write("a", "2")),
		commit(1, 3, write("a", "1"), write("b", "1")),
		commit(4, 8, write("b", "2")),
	}
	wantDeps(t, list,
		dep(adya.DepWW, 1, 2, "a"), dep(adya.DepWW, 2, 0, "a"),
		dep(adya.DepWW, 3, 1, "a"), dep(adya.DepWW, 3, 4, "b"))
	wantPhenomena(t, list, adya.PhGSIa)
	wantSerial(t, list, 3, 1, 2, 0, 4)
}

// P20.2: a transaction has one version of a key, however often it writes it.
func TestLastWrite(t *testing.T) {
	list := []api.Txn{
		commit(1, 3, write("a", "x"), remove("a"), write("a", "y"), write("b", "z"), remove("b")),
		commit(3, 5, found("a", "y"), missed("b"), write("a", "1"), write("a", "2")),
		commit(5, 6, found("a", "2")),
	}
	wantDeps(t, list,
		dep(adya.DepWW, 0, 1, "a"), dep(adya.DepWR, 0, 1, "a"), dep(adya.DepWR, 0, 1, "b"),
		dep(adya.DepWR, 1, 2, "a"))
	wantPhenomena(t, list)
	wantSerial(t, list, 0, 1, 2)
}

// P20.2: a read behind an own write or delete of the key is not external.
func TestExternal(t *testing.T) {
	writer := commit(1, 2, write("a", "x"), write("b", "x"), write("c", "x"))
	later := commit(8, 9, write("a", "y"), write("b", "y"), write("c", "y"))
	list := []api.Txn{writer, commit(3, 4, write("a", "1"), found("a", "w"), remove("b"), found("b", "w"), found("c", "x")), later}
	wantDeps(t, list,
		dep(adya.DepWW, 0, 1, "a"), dep(adya.DepWW, 0, 1, "b"), dep(adya.DepWR, 0, 1, "c"),
		dep(adya.DepWW, 0, 2, "c"), dep(adya.DepWW, 1, 2, "a"), dep(adya.DepWW, 1, 2, "b"), dep(adya.DepRW, 1, 2, "c"))
	wantPhenomena(t, list)
	list[1] = commit(3, 4, found("a", "w"), write("a", "1"))
	wantPhenomena(t, list, adya.PhMisread)
	list[1] = commit(3, 4, write("b", "1"), found("a", "w"))
	wantPhenomena(t, list, adya.PhMisread)
	list[1] = commit(3, 4, missed("b"), found("a", "x"), found("b", "x"))
	wantPhenomena(t, list, adya.PhMisread)
}

// P20.2: a read is bound to the last version by its start, the start itself in.
func TestBound(t *testing.T) {
	writers := []api.Txn{commit(1, 3, write("a", "x")), commit(4, 6, write("a", "y"))}
	cases := []struct {
		start int
		op    api.Op
		deps  []adya.Dep
	}{
		{2, missed("a"), []adya.Dep{dep(adya.DepRW, 2, 0, "a")}},
		{3, found("a", "x"), []adya.Dep{dep(adya.DepWR, 0, 2, "a"), dep(adya.DepRW, 2, 1, "a")}},
		{5, found("a", "x"), []adya.Dep{dep(adya.DepWR, 0, 2, "a"), dep(adya.DepRW, 2, 1, "a")}},
		{6, found("a", "y"), []adya.Dep{dep(adya.DepWR, 1, 2, "a")}},
		{8, found("a", "y"), []adya.Dep{dep(adya.DepWR, 1, 2, "a")}},
		{8, missed("b"), nil},
	}
	for _, c := range cases {
		list := append(slices.Clone(writers), commit(c.start, 9, c.op))
		want := append([]adya.Dep{dep(adya.DepWW, 0, 1, "a")}, c.deps...)
		slices.SortStableFunc(want, func(a, b adya.Dep) int { return (a.From-b.From)*10 + a.To - b.To })
		wantDeps(t, list, want...)
		wantPhenomena(t, list)
		wantSerial(t, list, orderOf(c.start)...)
	}
}

// orderOf is where the reader of TestBound stands in the serial order.
func orderOf(start int) []int {
	switch {
	case start < 3:
		return []int{2, 0, 1}
	case start < 6:
		return []int{0, 2, 1}
	}
	return []int{0, 1, 2}
}

// P20.2: of two versions with one end the later place's is the greater one.
func TestTwinBound(t *testing.T) {
	list := []api.Txn{
		commit(1, 3, write("a", "x")),
		commit(2, 3, write("a", "y")),
		commit(3, 4, found("a", "y")),
	}
	wantDeps(t, list, dep(adya.DepWW, 0, 1, "a"), dep(adya.DepWR, 1, 2, "a"))
	wantPhenomena(t, list, adya.PhGSIa)
	list[2] = commit(3, 4, found("a", "x"))
	wantPhenomena(t, list, adya.PhMisread, adya.PhGSIa)
}

// P20.2: a read that doesn't tell what it is bound to is bound all the same.
func TestMisreadDepends(t *testing.T) {
	list := []api.Txn{commit(1, 3, write("a", "x")), commit(4, 6, missed("a")), commit(4, 7, remove("a"))}
	wantDeps(t, list, dep(adya.DepWR, 0, 1, "a"), dep(adya.DepWW, 0, 2, "a"), dep(adya.DepRW, 1, 2, "a"))
	wantPhenomena(t, list, adya.PhMisread)
}

// P20.2: no dependency of a transaction on itself; the one behind its own
// version is none of its read's.
func TestSelf(t *testing.T) {
	list := []api.Txn{
		commit(1, 3, missed("a"), write("a", "x")),
		commit(2, 5, write("a", "y")),
	}
	wantDeps(t, list, dep(adya.DepWW, 0, 1, "a"))
	wantPhenomena(t, list, adya.PhGSIa)
	wantSerial(t, list, 0, 1)
}

// P20.2: dependencies by From, To, Kind and the bytes of the key, each once.
func TestDepsOrder(t *testing.T) {
	keys := []string{"b", "a\x00", "\xff", "a", "é", "B"}
	sorted := []string{"B", "a", "a\x00", "b", "é", "\xff"}
	var writes, reads []api.Op
	for _, key := range keys {
		writes = append(writes, write(key, "x"))
		reads = append(reads, found(key, "x"), found(key, "x"))
	}
	list := []api.Txn{commit(7, 8, writes...), commit(1, 2, writes...), commit(3, 6, reads...), commit(5, 9, found("a", "x"))}
	var want []adya.Dep
	each := func(kind, from, to int) {
		for _, key := range sorted {
			want = append(want, dep(kind, from, to, key))
		}
	}
	each(adya.DepWW, 1, 0)
	each(adya.DepWR, 1, 2)
	want = append(want, dep(adya.DepWR, 1, 3, "a"))
	each(adya.DepRW, 2, 0)
	want = append(want, dep(adya.DepRW, 3, 0, "a"))
	wantDeps(t, list, want...)
	wantSerial(t, list, 1, 2, 3, 0)
	both := []api.Txn{commit(1, 2, write("b", "x"), write("a", "x")), commit(3, 4, found("b", "x"), found("a", "x"), remove("b"), remove("a"))}
	wantDeps(t, both, dep(adya.DepWW, 0, 1, "a"), dep(adya.DepWW, 0, 1, "b"), dep(adya.DepWR, 0, 1, "a"), dep(adya.DepWR, 0, 1, "b"))
}

// P20.3: what a read has to tell of a value, a delete and the first state.
func TestMisread(t *testing.T) {
	cases := []struct {
		last api.Op
		read api.Op
		want []int
	}{
		{write("a", "x"), found("a", "x"), nil},
		{write("a", "x"), found("a", "y"), []int{adya.PhMisread}},
		{write("a", "x"), found("a", ""), []int{adya.PhMisread}},
		{write("a", "x"), missed("a"), []int{adya.PhMisread}},
		{write("a", ""), found("a", ""), nil},
		{write("a", ""), missed("a"), []int{adya.PhMisread}},
		{remove("a"), missed("a"), nil},
		{remove("a"), found("a", ""), []int{adya.PhMisread}},
		{missed("a"), missed("a"), nil},
		{missed("a"), found("a", ""), []int{adya.PhMisread}},
		{write("b", "x"), found("a", "x"), []int{adya.PhMisread}},
	}
	for _, c := range cases {
		wantPhenomena(t, []api.Txn{commit(1, 2, c.last), commit(2, 3, c.read)}, c.want...)
		wantPhenomena(t, []api.Txn{commit(1, 2, c.last), abort(2, 3, c.read), commit(3, 3, c.read)})
	}
}

// P20.3: what an aborted transaction wrote, anywhere in it, sound or not, was read.
func TestAborted(t *testing.T) {
	reader := commit(2, 3, found("a", "x"))
	dirty := []int{adya.PhMisread, adya.PhG1a}
	cases := []struct {
		other api.Txn
		want  []int
	}{
		{abort(1, 4, write("a", "x")), dirty},
		{abort(5, 6, write("a", "x")), dirty},
		{abort(6, 5, write("a", "x")), dirty},
		{abort(1, 4, missed("a"), write("a", "x"), write("a", "y")), dirty},
		{abort(1, 4, write("a", "y"), write("a", "x")), dirty},
		{abort(1, 4, write("a", "y"), write("b", "x")), []int{adya.PhMisread}},
		{abort(1, 4, found("a", "x"), remove("a")), []int{adya.PhMisread}},
		{commit(4, 4, write("a", "x")), []int{adya.PhMisread}},
		{commit(1, 4, write("a", "x")), []int{adya.PhMisread}},
	}
	for _, c := range cases {
		wantPhenomena(t, []api.Txn{reader, c.other}, c.want...)
		wantPhenomena(t, []api.Txn{c.other, reader}, c.want...)
	}
	// the value is there by right as well
	wantPhenomena(t, []api.Txn{commit(0, 1, write("a", "x")), abort(0, 1, write("a", "x")), reader})
	// nothing found is no value, the empty value is one
	unseen := []api.Txn{commit(0, 1, write("a", "y")), abort(0, 1, write("a", "")), commit(2, 3, missed("a"))}
	wantPhenomena(t, unseen, adya.PhMisread)
	unseen[2] = commit(2, 3, found("a", ""))
	wantPhenomena(t, unseen, adya.PhMisread, adya.PhG1a)
	// nobody of the history reads it
	wantPhenomena(t, []api.Txn{abort(1, 4, write("a", "x")), abort(2, 3, found("a", "x")), commit(3, 3, found("a", "x"))})
	// a read behind an own write is no external one
	wantPhenomena(t, []api.Txn{abort(1, 4, write("a", "x")), commit(2, 3, write("a", "y"), found("a", "x"))})
}

// P20.3: what another transaction of the history wrote and did not leave was read.
func TestIntermediate(t *testing.T) {
	reader := commit(2, 3, found("a", "x"))
	between := []int{adya.PhMisread, adya.PhG1b}
	cases := []struct {
		other api.Txn
		want  []int
	}{
		{commit(1, 4, write("a", "x"), write("a", "y")), between},
		{commit(1, 4, write("a", "x"), missed("b"), remove("a")), between},
		{commit(1, 4, write("a", "x"), write("a", "x")), between},
		{commit(5, 6, write("a", "x"), write("a", "y")), between},
		{commit(0, 1, write("a", "x"), write("a", "y")), between},
		{commit(0, 1, write("a", "x"), write("a", "x")), nil},
		{commit(1, 4, write("a", "y"), write("a", "x")), []int{adya.PhMisread}},
		{commit(1, 4, write("a", "x"), write("b", "y")), []int{adya.PhMisread}},
		{commit(1, 4, write("a", "x"), found("a", "x")), []int{adya.PhMisread}},
		{commit(1, 4, write("b", "x"), write("b", "y")), []int{adya.PhMisread}},
		{commit(4, 4, write("a", "x"), write("a", "y")), []int{adya.PhMisread}},
		{commit(5, 4, write("a", "x"), write("a", "y")), []int{adya.PhMisread}},
		{abort(1, 4, write("a", "x"), write("a", "y")), []int{adya.PhMisread, adya.PhG1a}},
	}
	for _, c := range cases {
		wantPhenomena(t, []api.Txn{reader, c.other}, c.want...)
		wantPhenomena(t, []api.Txn{c.other, reader}, c.want...)
	}
	// its own writes don't count, another's beside them do
	own := commit(2, 3, found("a", "x"), write("a", "x"), write("a", "x"), write("a", "y"))
	wantPhenomena(t, []api.Txn{own}, adya.PhMisread)
	wantPhenomena(t, []api.Txn{own, commit(3, 4, write("a", "x"), remove("a"))}, between...)
	wantPhenomena(t, []api.Txn{commit(3, 4, write("a", "x"), remove("a")), own}, between...)
	// nothing found is no value, the empty value is one
	unseen := []api.Txn{commit(0, 1, write("a", ""), write("a", "y")), commit(2, 3, missed("a"))}
	wantPhenomena(t, unseen, adya.PhMisread)
	unseen[1] = commit(2, 3, found("a", ""))
	wantPhenomena(t, unseen, between...)
}

// P20.3: who reads what it should not in one way may do so in the other as well.
func TestAllReads(t *testing.T) {
	list := []api.Txn{
		abort(1, 2, write("a", "x")),
		commit(1, 4, write("b", "y"), remove("b")),
		commit(2, 3, missed("c"), found("c", "z"), found("a", "x"), found("b", "y")),
	}
	wantPhenomena(t, list, adya.PhMisread, adya.PhG1a, adya.PhG1b)
	list[2].Ops = list[2].Ops[:3]
	wantPhenomena(t, list, adya.PhMisread, adya.PhG1a)
	list[2].Ops = list[2].Ops[:1]
	wantPhenomena(t, list)
}

// P20.3: versions one behind the other whose writers are not.
func TestOverlap(t *testing.T) {
	cases := []struct {
		start int
		want  []int
	}{{2, []int{adya.PhGSIa}}, {4, []int{adya.PhGSIa}}, {5, nil}, {6, nil}}
	for _, c := range cases {
		list := []api.Txn{commit(1, 5, write("a", "x")), commit(c.start, 8, remove("a"))}
		wantPhenomena(t, list, c.want...)
		wantSerial(t, list, 0, 1)
	}
	// a version between them makes the first and the last no neighbours
	wantPhenomena(t, []api.Txn{
		commit(1, 5, write("a", "x")), commit(5, 6, write("a", "y")), commit(6, 7, write("a", "z")),
	})
	// a DepRW between two that overlap is none of these
	wantPhenomena(t, []api.Txn{commit(1, 5, missed("a")), commit(2, 6, write("a", "x"))})
}

// P20.3: a cycle of one DepRW may go over each kind and over 'ahead'.
func TestCycle(t *testing.T) {
	// 0 reads a ahead of 1's write; 1 is ahead of 2; 2's version of b is ahead of 0's
	over := []api.Txn{
		commit(1, 9, missed("a"), write("b", "x")),
		commit(2, 4, write("a", "y")),
		commit(5, 8, write("b", "z")),
	}
	wantDeps(t, over, dep(adya.DepRW, 0, 1, "a"), dep(adya.DepWW, 2, 0, "b"))
	wantPhenomena(t, over, adya.PhGSIa, adya.PhGSIb)
	wantSerial(t, over, 2, 0, 1)
	// without the step that is 'ahead' there is no cycle
	over[2].Start = 3
	wantPhenomena(t, over, adya.PhGSIa)
	// nor over an 'ahead' of what is not of the history
	gone := append(slices.Clone(over[:2]), abort(5, 8, write("b", "z")))
	wantPhenomena(t, gone)
	// over a DepWR: 2 reads what 1 wrote
	read := []api.Txn{
		commit(1, 9, missed("a"), write("b", "x")),
		commit(2, 4, write("a", "y")),
		commit(4, 8, found("a", "y"), write("b", "z")),
	}
	wantPhenomena(t, read, adya.PhGSIa, adya.PhGSIb)
	wantNoSerial(t, read)
}

// P20.3: a cycle that needs two DepRW is none.
func TestTwoAnti(t *testing.T) {
	list := []api.Txn{
		commit(1, 5, missed("a"), write("b", "x")),
		commit(2, 6, missed("b"), missed("c"), write("a", "y")),
		commit(7, 8, found("a", "y"), write("c", "z")),
	}
	wantPhenomena(t, list)
	wantNoSerial(t, list)
}

// P20.4: the smallest place that can stand comes first, and what is not of the
// history is left out.
func TestSerialOrder(t *testing.T) {
	list := []api.Txn{
		commit(9, 10, found("a", "x")),
		abort(1, 2, write("a", "y")),
		commit(1, 8, missed("a")),
		commit(1, 9, write("a", "x")),
		commit(3, 3, write("a", "w")),
		commit(0, 1),
	}
	wantSerial(t, list, 2, 3, 0, 5)
	wantSerial(t, list[1:2])
	wantSerial(t, list[4:5])
	wantSerial(t, list[3:], 0, 2)
}

// P20.4: 'ahead' binds nobody in the order.
func TestSerialFree(t *testing.T) {
	wantSerial(t, []api.Txn{commit(8, 9), commit(5, 6), commit(1, 2, write("a", "x"))}, 0, 1, 2)
}

// The greatest history is answered whole.
func TestGreatest(t *testing.T) {
	list := greatest()
	deps, e := adya.Deps(list)
	if e != api.OK || len(deps) != api.MaxOps*(api.MaxHistory-1) {
		t.Errorf("%d deps, %d", len(deps), e)
	}
	if !slices.IsSortedFunc(deps, compare) {
		t.Error("out of order")
	}
	wantPhenomena(t, list)
	order, ok, e := adya.Serial(list)
	if !ok || e != api.OK || len(order) != api.MaxHistory || !slices.IsSorted(order) {
		t.Errorf("Serial %v, %t, %d", order, ok, e)
	}
	// the last one reads what was there at first
	list[api.MaxHistory-1].Ops[0] = missed("a0")
	list[api.MaxHistory-1].Start = 0
	wantPhenomena(t, list, adya.PhMisread, adya.PhGSIa, adya.PhGSIb)
	wantNoSerial(t, list)
}

// greatest is as many transactions as may be, one behind the other, with as many
// operations as may be: each reads four keys that the one ahead of it wrote,
// and writes them and eight more.
func greatest() []api.Txn {
	var list []api.Txn
	for i := range api.MaxHistory {
		var ops []api.Op
		for k := range 4 {
			key := string([]byte{'a' + byte(k), '0'})
			r := missed(key)
			if i > 0 {
				r = found(key, "v")
			}
			ops = append(ops, r, write(key, "v"))
		}
		for k := range 8 {
			ops = append(ops, write(string([]byte{'k' + byte(k)}), "v"))
		}
		list = append(list, commit(2*i+1, 2*i+2, ops...))
	}
	return list
}

func compare(a, b adya.Dep) int {
	for _, c := range []int{a.From - b.From, a.To - b.To, a.Kind - b.Kind} {
		if c != 0 {
			return c
		}
	}
	return strings.Compare(a.Key, b.Key)
}

// P1: the answers are the same every time, however the goroutines run.
func TestSame(t *testing.T) {
	list := greatest()[:40]
	first, _ := adya.Deps(list)
	for range 50 {
		wantDeps(t, list, first...)
	}
}

// What is handed in stays as it is, its spare room too; answers are new memory.
func TestMemory(t *testing.T) {
	ops := []api.Op{found("a", "x"), write("a", "y"), write("b", "z"), write("b", "spare")}
	list := []api.Txn{commit(1, 3, write("a", "x")), commit(2, 9, ops[:3]...), commit(0, 1), abort(8, 9, write("a", "spare"))}
	keptOps, keptList := slices.Clone(ops), slices.Clone(list)
	ask := func() ([]adya.Dep, []int, []int) {
		deps, _ := adya.Deps(list[:3])
		phenomena, _ := adya.Phenomena(list[:3])
		order, _, _ := adya.Serial(list[:2])
		return deps, phenomena, order
	}
	deps, phenomena, _ := ask()
	_, _, order := ask()
	wantD, wantP, wantO := slices.Clone(deps), slices.Clone(phenomena), slices.Clone(order)
	fill(deps[:cap(deps)], dep(9, 9, 9, "spoilt"))
	fill(phenomena[:cap(phenomena)], 99)
	fill(order[:cap(order)], 99)
	d, p, o := ask()
	if !slices.Equal(d, wantD) || !slices.Equal(p, wantP) || !slices.Equal(o, wantO) {
		t.Errorf("after the answers were written over: %v %v %v", d, p, o)
	}
	if !slices.Equal(ops, keptOps) {
		t.Errorf("operations changed: %v", ops)
	}
	for i := range list {
		if list[i].Start != keptList[i].Start || list[i].Status != keptList[i].Status || len(list[i].Ops) != len(keptList[i].Ops) {
			t.Errorf("transaction %d changed", i)
		}
	}
}

func fill[T any](list []T, with T) {
	for i := range list {
		list[i] = with
	}
}

// P3: the machine's own logs have no phenomena, in any order of their records;
// each flawed machine comes to those that its flaw is of.
func TestMachine(t *testing.T) {
	seen := map[int][7]int{}
	for flaw := machine.FlawNone; flaw <= machine.FlawDirty; flaw++ {
		d := dice(flaw + 1)
		for range 150 {
			log := d.emit(flaw)
			d.shuffle(log)
			list, e := adya.Phenomena(log)
			if e != api.OK {
				t.Fatal(e)
			}
			counts := seen[flaw]
			for _, phenomenon := range list {
				counts[phenomenon]++
			}
			seen[flaw] = counts
		}
	}
	if seen[machine.FlawNone] != [7]int{} {
		t.Errorf("the machine without a flaw: %v", seen[machine.FlawNone])
	}
	few := 10
	if c := seen[machine.FlawLost]; c[adya.PhGSIa] < few || c[adya.PhGSIb] < few || c[adya.PhMisread] > 0 {
		t.Errorf("the machine that loses updates: %v", c)
	}
	for _, flaw := range []int{machine.FlawLate, machine.FlawStale} {
		if c := seen[flaw]; c[adya.PhMisread] < few || c[adya.PhGSIa] > 0 || c[adya.PhGSIb] > 0 {
			t.Errorf("the machine with the flaw %d: %v", flaw, c)
		}
	}
	if c := seen[machine.FlawDirty]; c[adya.PhMisread] < few || c[adya.PhG1a] < few || c[adya.PhG1b] == 0 {
		t.Errorf("the machine that reads what is not committed: %v", c)
	}
}

// emit gives a log of 200 steps of a machine with the flaw, each with a value of
// its own.
func (d *dice) emit(flaw int) []api.Txn {
	kinds := []int{
		machine.StepBegin, machine.StepBegin, machine.StepRead, machine.StepRead, machine.StepWrite,
		machine.StepWrite, machine.StepDelete, machine.StepCommit, machine.StepAbort,
	}
	var steps []machine.Step
	for i := range 200 {
		steps = append(steps, machine.Step{
			Kind: kinds[d.below(len(kinds))], Session: d.below(3), Gap: d.below(2),
			Key: string([]byte{'a' + byte(d.below(3))}), Value: string([]byte{byte(i)}),
		})
	}
	log, _ := machine.Emit(3, flaw, steps)
	return log
}

func (d *dice) shuffle(log []api.Txn) {
	for i := range log {
		j := d.below(i + 1)
		log[i], log[j] = log[j], log[i]
	}
}
