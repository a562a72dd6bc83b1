package machine

import "proctor/api"

// transaction is an active transaction, and the time of each of its operations.
type transaction struct {
	api.Txn
	times []int
}

// lastWrite gives the number of the last operation that wrote or deleted a key.
func (t *transaction) lastWrite(key string) (int, bool) {
	for i := len(t.Ops) - 1; i >= 0; i-- {
		if t.Ops[i].Key == key && t.Ops[i].Kind != api.OpRead {
			return i, true
		}
	}
	return 0, false
}

// outcome gives for each key that is written or deleted the last such operation.
func (t *transaction) outcome() []api.Op {
	var list []api.Op
	for i, op := range t.Ops {
		if last, ok := t.lastWrite(op.Key); ok && last == i {
			list = append(list, op)
		}
	}
	return list
}
