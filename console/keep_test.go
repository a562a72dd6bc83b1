package console

import (
	"strconv"
	"testing"

	"proctor/api"
)

// TestFullList: a script has too few lines to fill a list, so that the bound can be met on a desk alone.
func TestFullList(t *testing.T) {
	d := newDesk()
	d.list = make([]api.Txn, api.MaxTxns-1)
	right := "txn s0 q0 t1-4 c0-4 commit"
	table := commands()
	if s := d.carryOut(table, right); s != "ok "+strconv.Itoa(api.MaxTxns)+"\n" {
		t.Errorf("the last place: %q", s)
	}
	for _, line := range []string{right, "txn", "txn s0", "txn s1048576 q0 t1-4 c0-4 commit"} {
		if s := d.carryOut(table, line); s != "error 71\n" || len(d.list) != api.MaxTxns {
			t.Errorf("%q behind the last place: %q, %d", line, s, len(d.list))
		}
	}
	for _, line := range []string{"deps", "phenomena", "serial"} {
		if s := d.carryOut(table, line); s != "error 200\n" {
			t.Errorf("%q: %q", line, s)
		}
	}
	if s := d.carryOut(table, "drop"); s != "ok\n" || len(d.list) != 0 {
		t.Errorf("drop: %q", s)
	}
}

// TestTable: each command stands once and has what it does.
func TestTable(t *testing.T) {
	seen := map[string]int{}
	for _, c := range commands() {
		seen[c.name]++
		if seen[c.name] > 1 || c.do == nil || c.open && c.numbers+c.words > 0 {
			t.Errorf("%q", c.name)
		}
		if c.numbers > len(given{}.numbers) || c.words > len(given{}.words) {
			t.Errorf("%q has more behind it than a line can give", c.name)
		}
	}
	if len(seen) != 19 {
		t.Errorf("%d commands", len(seen))
	}
}
