package wire

import (
	"errors"

	"annal/api"
	"annal/table"
)

var ErrBatch = errors.New("the body is not that of a batch")

// Batch is a batch as it stands in a segment.
type Batch struct {
	Number int
	Txns   [][]api.Op
}

// ReadBatch reads the bytes of a batch.
func ReadBatch(body string) (Batch, error) {
	r := reader{rest: body}
	batch := Batch{Number: int(r.number(numberBytes))}
	for range int(r.number(1)) {
		batch.Txns = append(batch.Txns, r.transaction())
	}
	if !r.ended() || !isBatchNumber(batch.Number) || !table.IsBatch(batch.Txns) {
		return Batch{}, ErrBatch
	}
	return batch, nil
}

func isBatchNumber(number int) bool {
	return number >= 1 && number <= api.MaxNumber
}

func (r *reader) transaction() []api.Op {
	var txn []api.Op
	for range int(r.number(1)) {
		txn = append(txn, r.operation())
	}
	return txn
}

func (r *reader) operation() api.Op {
	var op api.Op
	op.Kind = int(r.number(1))
	op.K = int(r.number(1))
	switch op.Kind {
	case api.Put, api.Add, api.Need:
		op.A = int(r.number(valueBytes))
	case api.Sum:
		op.A = int(r.number(1))
		op.B = int(r.number(1))
	}
	return op
}

// Bytes are those from which ReadBatch reads the batch.
func (b Batch) Bytes() string {
	data := appendNumber(nil, b.Number, numberBytes)
	data = appendNumber(data, len(b.Txns), 1)
	for _, txn := range b.Txns {
		data = appendNumber(data, len(txn), 1)
		for _, op := range txn {
			data = appendOperation(data, op)
		}
	}
	return string(data)
}

func appendOperation(data []byte, op api.Op) []byte {
	data = appendNumber(data, op.Kind, 1)
	data = appendNumber(data, op.K, 1)
	switch op.Kind {
	case api.Put, api.Add, api.Need:
		data = appendNumber(data, op.A, valueBytes)
	case api.Sum:
		data = appendNumber(data, op.A, 1)
		data = appendNumber(data, op.B, 1)
	}
	return data
}
