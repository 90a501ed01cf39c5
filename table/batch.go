package table

import "annal/api"

// IsBatch tells whether a list of transactions is a batch.
func IsBatch(batch [][]api.Op) bool {
	if len(batch) < 1 || len(batch) > api.MaxTxns {
		return false
	}
	for _, txn := range batch {
		if !isTransaction(txn) {
			return false
		}
	}
	return true
}

func isTransaction(txn []api.Op) bool {
	if len(txn) < 1 || len(txn) > api.MaxOps {
		return false
	}
	for _, op := range txn {
		if !isOperation(op) {
			return false
		}
	}
	return true
}

func isOperation(op api.Op) bool {
	if !HasKey(op.K) {
		return false
	}
	switch op.Kind {
	case api.Put, api.Add, api.Need:
		return op.B == 0
	case api.Del, api.Lack:
		return op.A == 0 && op.B == 0
	case api.Sum:
		return HasKey(op.A) && HasKey(op.B)
	}
	return false
}
