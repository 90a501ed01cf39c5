// Package table: the keys and their values, and what transactions do to them.
package table

import "annal/api"

// Table is a plain value: a copy of it is the table as it was.
type Table struct {
	has    [api.Keys]bool
	values [api.Keys]int // 0 where there is none, so that Add and Sum need not ask
}

// HasKey tells whether there is such a key.
func HasKey(key int) bool {
	return key >= 0 && key < api.Keys
}

// Get tells a key's value, and whether it has one.
func (t *Table) Get(key int) (int, bool) {
	return t.values[key], t.has[key]
}

// Put gives a key a value.
func (t *Table) Put(key, value int) {
	t.has[key] = true
	t.values[key] = value
}

// Do does the transactions of a batch, and tells of each whether it was committed.
func (t *Table) Do(batch [][]api.Op) []bool {
	committed := make([]bool, len(batch))
	for i, txn := range batch {
		committed[i] = t.doTransaction(txn)
	}
	return committed
}

func (t *Table) doTransaction(txn []api.Op) bool {
	ahead := *t
	for _, op := range txn {
		if !t.doOperation(op) {
			*t = ahead
			return false
		}
	}
	return true
}

// doOperation answers false if the operation fails.
func (t *Table) doOperation(op api.Op) bool {
	switch op.Kind {
	case api.Put:
		t.Put(op.K, op.A)
	case api.Del:
		t.drop(op.K)
	case api.Add:
		return t.add(op.K, op.A)
	case api.Need:
		return t.has[op.K] && t.values[op.K] == op.A
	case api.Lack:
		return !t.has[op.K]
	case api.Sum:
		return t.putSum(op.K, op.A, op.B)
	}
	return true
}

func (t *Table) drop(key int) {
	t.has[key] = false
	t.values[key] = 0
}

func (t *Table) add(key, more int) bool {
	value, fits := plus(t.values[key], more)
	if fits {
		t.Put(key, value)
	}
	return fits
}

func (t *Table) putSum(key, first, last int) bool {
	sum := 0
	for k := first; k <= last; k++ {
		next, fits := plus(sum, t.values[k])
		if !fits {
			return false
		}
		sum = next
	}
	t.Put(key, sum)
	return true
}

// plus adds, and tells whether the sum is a number of 64 bits.
func plus(x, y int) (int, bool) {
	sum := x + y
	if y < 0 {
		return sum, sum < x
	}
	return sum, sum >= x
}
