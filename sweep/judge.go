package sweep

import (
	"slices"

	"proctor/api"
)

// judge gives the violations of a transaction that ends, by Kind and then Op.
func (s *Sweep) judge(place int, t api.Txn) []api.Viol {
	list := slices.Concat(s.twin(t), internal(t), s.snapshot(t), s.conflict(t))
	for i := range list {
		list[i].Time, list[i].Txn = t.End, place
	}
	return list
}

// twin gives the violation of a commit at the time of another.
func (s *Sweep) twin(t api.Txn) []api.Viol {
	// No transaction ends at 0, so the first commit finds no leader either.
	if t.Status != api.Committed || s.leader.time != t.End {
		return nil
	}
	return []api.Viol{{Kind: api.KindTwin, Op: -1, Witness: s.leader.place, From: t.Start, To: t.End}}
}

// internal gives the reads that don't tell an own write.
func internal(t api.Txn) []api.Viol {
	var list []api.Viol
	for j, op := range t.Ops {
		own, ok := lastWrite(t.Ops[:j], op.Key)
		if op.Kind != api.OpRead || !ok || tells(op, own.Found, own.Value) {
			continue
		}
		list = append(list, api.Viol{
			Kind: api.KindInternal, Op: j, Witness: -1, Key: op.Key,
			Want: own.Found, Expected: own.Value, Got: op.Found, Observed: op.Value,
			From: t.Start, To: t.End,
		})
	}
	return list
}

// snapshot gives the reads, but for those of own writes, that don't tell what was
// committed by the start.
func (s *Sweep) snapshot(t api.Txn) []api.Viol {
	var list []api.Viol
	for j, op := range t.Ops {
		if op.Kind != api.OpRead || writes(t.Ops[:j], op.Key) {
			continue
		}
		version, ok := s.versions.At(op.Key, t.Start)
		if tells(op, version.Found, version.Value) {
			continue
		}
		if !ok {
			version.Writer = -1
		}
		list = append(list, api.Viol{
			Kind: api.KindSnapshot, Op: j, Witness: version.Writer, Key: op.Key,
			Want: version.Found, Expected: version.Value, Got: op.Found, Observed: op.Value,
			From: version.Commit, To: t.Start,
		})
	}
	return list
}

// conflict gives the keys of a commit that another has committed since the start.
func (s *Sweep) conflict(t api.Txn) []api.Viol {
	if t.Status != api.Committed {
		return nil
	}
	var list []api.Viol
	for j, op := range t.Ops {
		if op.Kind == api.OpRead || writes(t.Ops[:j], op.Key) {
			continue
		}
		first, ok := s.writers.First(op.Key, t.Start, t.End)
		if !ok {
			continue
		}
		list = append(list, api.Viol{
			Kind: api.KindConflict, Op: j, Witness: first.Id, Key: op.Key,
			From: t.Start, To: first.To,
		})
	}
	return list
}

func tells(read api.Op, found bool, value string) bool {
	return read.Found == found && read.Value == value
}

// lastWrite gives the last operation that writes or deletes a key. What it left
// is its Found and Value: a delete has neither.
func lastWrite(ops []api.Op, key string) (api.Op, bool) {
	for _, op := range slices.Backward(ops) {
		if op.Key == key && op.Kind != api.OpRead {
			return op, true
		}
	}
	return api.Op{}, false
}

func writes(ops []api.Op, key string) bool {
	_, ok := lastWrite(ops, key)
	return ok
}

// outcome gives for each key that is written or deleted the last such operation.
func outcome(ops []api.Op) []api.Op {
	var list []api.Op
	for j, op := range ops {
		if op.Kind != api.OpRead && !writes(ops[j+1:], op.Key) {
			list = append(list, op)
		}
	}
	return list
}
