package annal_test

import (
	"maps"
	"math/big"
	"math/rand/v2"
	"slices"
	"testing"

	"annal/annal"
	"annal/api"
)

const (
	most  = 1<<63 - 1
	least = -1 << 63
)

func TestP3Example(t *testing.T) {
	a := mustOpen(t)
	l, e := a.Submit([][]api.Op{
		{{Kind: api.Put, K: 5, A: 7}, {Kind: api.Need, K: 5, A: 7}},
		{{Kind: api.Add, K: 5, A: 1}, {Kind: api.Need, K: 5, A: 7}},
	})
	if !slices.Equal(l, []bool{true, false}) || e != api.OK {
		t.Errorf("P3: Submit: %v, %d", l, e)
	}
	if v, has, e := a.Get(5); v != 7 || !has || e != api.OK {
		t.Errorf("P3: Get(5): %d, %v, %d", v, has, e)
	}
	if v, has, e := a.Get(6); v != 0 || has || e != api.OK {
		t.Errorf("P3: Get(6): %d, %v, %d", v, has, e)
	}
}

func TestP3NoSuchKey(t *testing.T) {
	a := mustOpen(t)
	a.Submit([][]api.Op{{{Kind: api.Put, K: 0, A: 1}, {Kind: api.Put, K: 63, A: 2}}})
	for _, k := range []int{least, -64, -1, 64, 65, 256, 1 << 32, most} {
		if v, has, e := a.Get(k); v != 0 || has || e != api.ErrArg {
			t.Errorf("P3: Get(%d): %d, %v, %d", k, v, has, e)
		}
	}
}

// modelDo does a transaction on a map with numbers of any size.
func modelDo(table map[int]int, txn []api.Op) (map[int]int, bool) {
	t := maps.Clone(table)
	for _, op := range txn {
		sum := new(big.Int)
		v, has := t[op.K]
		switch op.Kind {
		case api.Put:
			t[op.K] = op.A
		case api.Del:
			delete(t, op.K)
		case api.Need:
			if !has || v != op.A {
				return table, false
			}
		case api.Lack:
			if has {
				return table, false
			}
		case api.Add:
			sum.Add(big.NewInt(int64(v)), big.NewInt(int64(op.A)))
			if !sum.IsInt64() {
				return table, false
			}
			t[op.K] = int(sum.Int64())
		case api.Sum:
			for k := op.A; k <= op.B; k++ {
				if sum.Add(sum, big.NewInt(int64(t[k]))); !sum.IsInt64() {
					return table, false
				}
			}
			t[op.K] = int(sum.Int64())
		}
	}
	return t, true
}

func TestP3AgainstModel(t *testing.T) {
	random := rand.New(rand.NewPCG(5, 6))
	aborted, committed := 0, 0
	for range 300 {
		a, table := mustOpen(t), map[int]int{}
		for n := range api.MaxWaiting {
			batch := randomBatch(random)
			want := make([]bool, len(batch))
			for i, txn := range batch {
				if table, want[i] = modelDo(table, txn); want[i] {
					committed++
				} else {
					aborted++
				}
			}
			l, e := a.Submit(batch)
			if e != api.OK || !slices.Equal(l, want) || !maps.Equal(tableOf(t, a), table) {
				t.Fatalf("P3: batch %d: %v: %v, %d, want %v; %v, want %v", n+1, batch, l, e, want, tableOf(t, a), table)
			}
		}
	}
	if aborted < 1000 || committed < 1000 {
		t.Errorf("the batches tell too little: %d aborted, %d committed", aborted, committed)
	}
}

func TestP3NoBatch(t *testing.T) {
	good := []api.Op{{Kind: api.Put, K: 1, A: 1}}
	for k, batch := range [][][]api.Op{
		nil, {}, {nil}, {good, nil}, slices.Repeat([][]api.Op{good}, 9), {slices.Repeat(good, 9)},
		{good, {{}}}, {good, {{Kind: 7}}}, {good, {{Kind: -1}}}, {good, {{Kind: most}}}, {good, {{Kind: least}}},
		{good, {{Kind: api.Put, K: 64}}}, {good, {{Kind: api.Put, K: -1}}}, {good, {{Kind: api.Put, K: most}}}, {good, {{Kind: api.Put, B: 1}}}, {good, {{Kind: api.Add, B: 1}}}, {good, {{Kind: api.Need, B: 1}}},
		{good, {{Kind: api.Del, A: 1}}}, {good, {{Kind: api.Del, B: 1}}}, {good, {{Kind: api.Lack, A: 1}}}, {good, {{Kind: api.Lack, B: 1}}},
		{good, {{Kind: api.Sum, A: 64}}}, {good, {{Kind: api.Sum, B: 64}}}, {good, {{Kind: api.Sum, A: -1}}}, {good, {{Kind: api.Sum, B: least}}},
	} {
		a := mustOpen(t)
		if l, e := a.Submit(batch); l != nil || e != api.ErrBatch || len(tableOf(t, a)) != 0 {
			t.Errorf("P3: line %d: %v, %d, %v", k, l, e, tableOf(t, a))
		}
	}
}

func TestP3RefusedBatchesDoNotWait(t *testing.T) {
	a := mustOpen(t)
	for range 100 {
		a.Submit(nil)
	}
	for n := range api.MaxWaiting {
		if _, e := a.Submit(put(1, n)); e != api.OK {
			t.Fatalf("P3: batch %d: %d", n+1, e)
		}
	}
	for range 3 {
		if l, e := a.Submit(put(1, 99)); l != nil || e != api.ErrMany {
			t.Errorf("P3: a seventeenth: %v, %d", l, e)
		}
	}
	if l, e := a.Submit(nil); l != nil || e != api.ErrBatch {
		t.Errorf("P1: ErrBatch is named ahead of ErrMany: %v, %d", l, e)
	}
	if v, _, _ := a.Get(1); v != api.MaxWaiting-1 {
		t.Errorf("P1: a refused batch was done: %d", v)
	}
}

func TestP3AbortedBatchesWaitToo(t *testing.T) {
	a := mustOpen(t)
	for n := range api.MaxWaiting {
		if l, e := a.Submit([][]api.Op{{{Kind: api.Need}}}); !slices.Equal(l, []bool{false}) || e != api.OK {
			t.Fatalf("P3: batch %d: %v, %d", n+1, l, e)
		}
	}
	if _, e := a.Submit(put(1, 1)); e != api.ErrMany {
		t.Errorf("P3: a seventeenth: %d", e)
	}
}

func TestP3LastNumber(t *testing.T) {
	near := []api.File{manifestFile(api.MaxNumber-1, 1), checkpointFile(api.MaxNumber-1, map[int]int{2: 3})}
	a := mustOpen(t, near...)
	if _, e := a.Submit(put(1, 1)); e != api.OK {
		t.Errorf("P3: the batch MaxNumber: %d", e)
	}
	at := mustOpen(t, append(near, segmentFile(1, batchFrame(api.MaxNumber, put(1, 1))))...)
	for _, a := range []*annal.Annal{a, at} {
		if l, e := a.Submit(put(1, 2)); l != nil || e != api.ErrMany {
			t.Errorf("P3: a batch behind MaxNumber: %v, %d", l, e)
		}
		if _, e := a.Submit(nil); e != api.ErrBatch {
			t.Errorf("P1: ErrBatch is named ahead of ErrMany: %d", e)
		}
		if !maps.Equal(tableOf(t, a), map[int]int{1: 1, 2: 3}) {
			t.Errorf("P1: a refused batch was done: %v", tableOf(t, a))
		}
	}
}

func TestP2ArgumentsOfSubmit(t *testing.T) {
	spare := api.Op{Kind: 91, K: 92, A: 93, B: 94}
	ops := []api.Op{{Kind: api.Put, K: 1, A: 1}, {Kind: api.Need, K: 1, A: 1}, {Kind: api.Add, K: 2, A: 5}, spare, spare}
	txns := [][]api.Op{ops[0:2], ops[2:3], {spare}}
	opsAhead, txnsAhead := slices.Clone(ops), slices.Clone(txns)
	a := mustOpen(t)
	if l, e := a.Submit(txns[:2]); !slices.Equal(l, []bool{true, true}) || e != api.OK {
		t.Fatalf("P3: Submit: %v, %d", l, e)
	}
	if !slices.Equal(ops, opsAhead) || !slices.EqualFunc(txns, txnsAhead, slices.Equal) {
		t.Errorf("P2: Submit wrote into its argument: %v, %v", ops, txns)
	}
	for i := range ops {
		ops[i] = spare
	}
	if !maps.Equal(tableOf(t, a), map[int]int{1: 1, 2: 5}) {
		t.Errorf("P2: Submit kept its argument: %v", tableOf(t, a))
	}
}

func TestP2AnswersOfSubmit(t *testing.T) {
	a := mustOpen(t)
	batch := [][]api.Op{{{Kind: api.Put, K: 1, A: 1}}, {{Kind: api.Need, K: 2}}}
	first, _ := a.Submit(batch)
	second, _ := a.Submit(batch)
	for i := range first[:cap(first)] {
		first[:cap(first)][i] = i == 1
	}
	third, _ := a.Submit(batch)
	for _, l := range [][]bool{second, third} {
		if !slices.Equal(l, []bool{true, false}) {
			t.Errorf("P2: two answers share memory: %v", l)
		}
	}
}

func TestP2AnnalsAreApart(t *testing.T) {
	disk := []api.File{segmentFile(1, batchFrame(1, put(1, 1)))}
	a, b := mustOpen(t, disk...), mustOpen(t, disk...)
	for range api.MaxWaiting {
		a.Submit(put(1, 2))
	}
	if _, e := b.Submit(put(3, 3)); e != api.OK {
		t.Errorf("P2: batches of another annal count: %d", e)
	}
	if !maps.Equal(tableOf(t, a), map[int]int{1: 2}) || !maps.Equal(tableOf(t, b), map[int]int{1: 1, 3: 3}) {
		t.Errorf("P2: annals share a table: %v, %v", tableOf(t, a), tableOf(t, b))
	}
}

// Lists with numbers of all sizes: a batch is done or refused as a whole.
func TestP1AnyBatch(t *testing.T) {
	random := rand.New(rand.NewPCG(13, 14))
	numbers := []int{least, -1, 0, 1, 2, 3, 4, 5, 6, 7, 63, 64, 255, 256, most}
	pick := func() int { return numbers[random.IntN(len(numbers))] }
	answers := map[api.Errno]int{}
	for range 20000 {
		a := mustOpen(t)
		a.Submit(put(1, 1))
		batch := make([][]api.Op, random.IntN(3))
		for i := range batch {
			batch[i] = make([]api.Op, random.IntN(3))
			for j := range batch[i] {
				batch[i][j] = api.Op{Kind: pick(), K: pick(), A: pick(), B: pick() * random.IntN(2)}
			}
		}
		l, e := a.Submit(batch)
		answers[e]++
		if e == api.OK && len(l) != len(batch) || e != api.OK && (l != nil || e != api.ErrBatch || !maps.Equal(tableOf(t, a), map[int]int{1: 1})) {
			t.Fatalf("P1: Submit(%v): %v, %d", batch, l, e)
		}
	}
	if answers[api.OK] < 100 || answers[api.ErrBatch] < 100 {
		t.Errorf("the batches tell too little: %v", answers)
	}
}
