package machine

import (
	"proctor/api"
	"proctor/chain"
)

// sees gives what a read of a key by an active transaction finds.
func (m *Machine) sees(t *transaction, key string) (bool, string) {
	if i, ok := t.lastWrite(key); ok {
		return t.Ops[i].Found, t.Ops[i].Value
	}
	if m.flaw == FlawDirty {
		if op, ok := m.lastDirty(key); ok {
			return op.Found, op.Value
		}
	}
	v := m.committed(key, t.Start)
	return v.Found, v.Value
}

// committed gives the version of a key that a transaction with that start sees;
// a version without a value, if it sees none.
func (m *Machine) committed(key string, start int) chain.Version {
	if m.flaw == FlawLate {
		start = m.clock
	}
	v, ok := m.versions.At(key, start)
	if ok && m.flaw == FlawStale {
		// No two steps have one time, so neither have two versions.
		v, _ = m.versions.At(key, v.Commit-1)
	}
	return v
}

// lastDirty gives the last write or delete of a key by active transactions. The
// one that reads isn't left out: it has none, or it would see its own.
func (m *Machine) lastDirty(key string) (api.Op, bool) {
	last, time := api.Op{}, 0
	for _, who := range m.sessions {
		if who.active == nil {
			continue
		}
		if i, ok := who.active.lastWrite(key); ok && who.active.times[i] > time {
			last, time = who.active.Ops[i], who.active.times[i]
		}
	}
	return last, time > 0
}
