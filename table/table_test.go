package table

import (
	"math/big"
	"math/rand/v2"
	"slices"
	"testing"

	"annal/api"
)

const (
	most  = 1<<63 - 1
	least = -1 << 63
)

func TestOperations(t *testing.T) {
	for _, c := range []struct {
		name      string
		ahead     map[int]int
		txn       []api.Op
		committed bool
		behind    map[int]int
	}{
		{"put", nil, []api.Op{{Kind: api.Put, K: 63, A: -4}}, true, map[int]int{63: -4}},
		{"put 0 is a value", nil, []api.Op{{Kind: api.Put, K: 0}}, true, map[int]int{0: 0}},
		{"put over", map[int]int{1: 9}, []api.Op{{Kind: api.Put, K: 1, A: least}}, true, map[int]int{1: least}},
		{"del", map[int]int{1: 9, 2: 8}, []api.Op{{Kind: api.Del, K: 1}}, true, map[int]int{2: 8}},
		{"del of none", nil, []api.Op{{Kind: api.Del, K: 1}}, true, nil},
		{"del leaves nothing to add to", map[int]int{1: 9}, []api.Op{{Kind: api.Del, K: 1}, {Kind: api.Add, K: 1, A: 2}}, true, map[int]int{1: 2}},
		{"add to none", nil, []api.Op{{Kind: api.Add, K: 3, A: 0}}, true, map[int]int{3: 0}},
		{"add to the most", map[int]int{3: most - 1}, []api.Op{{Kind: api.Add, K: 3, A: 1}}, true, map[int]int{3: most}},
		{"add above the most", map[int]int{3: most}, []api.Op{{Kind: api.Add, K: 3, A: 1}}, false, map[int]int{3: most}},
		{"add to the least", map[int]int{3: 0}, []api.Op{{Kind: api.Add, K: 3, A: least}}, true, map[int]int{3: least}},
		{"add below the least", map[int]int{3: -1}, []api.Op{{Kind: api.Add, K: 3, A: least}}, false, map[int]int{3: -1}},
		{"need", map[int]int{3: 5}, []api.Op{{Kind: api.Need, K: 3, A: 5}}, true, map[int]int{3: 5}},
		{"need another", map[int]int{3: 5}, []api.Op{{Kind: api.Need, K: 3, A: 6}}, false, map[int]int{3: 5}},
		{"need 0 where none is", nil, []api.Op{{Kind: api.Need, K: 3}}, false, nil},
		{"lack", nil, []api.Op{{Kind: api.Lack, K: 3}}, true, nil},
		{"lack of 0", map[int]int{3: 0}, []api.Op{{Kind: api.Lack, K: 3}}, false, map[int]int{3: 0}},
		{"sum takes both ends", map[int]int{1: 1, 2: 2, 4: 4, 5: 5}, []api.Op{{Kind: api.Sum, K: 9, A: 2, B: 4}}, true, map[int]int{1: 1, 2: 2, 4: 4, 5: 5, 9: 6}},
		{"sum of all takes its own key", map[int]int{0: 1, 9: 10, 63: 3}, []api.Op{{Kind: api.Sum, K: 9, A: 0, B: 63}}, true, map[int]int{0: 1, 9: 14, 63: 3}},
		{"sum of nothing", map[int]int{1: 1}, []api.Op{{Kind: api.Sum, K: 1, A: 5, B: 4}}, true, map[int]int{1: 0}},
		{"sum on the way too great", map[int]int{1: most, 2: 1, 3: -5}, []api.Op{{Kind: api.Sum, K: 9, A: 1, B: 3}}, false, map[int]int{1: most, 2: 1, 3: -5}},
		{"sum in another order not too great", map[int]int{1: -5, 2: most, 3: 1}, []api.Op{{Kind: api.Sum, K: 9, A: 1, B: 3}}, true, map[int]int{1: -5, 2: most, 3: 1, 9: most - 4}},
		{"sum on the way too small", map[int]int{1: least, 2: -1, 3: 5}, []api.Op{{Kind: api.Sum, K: 9, A: 1, B: 3}}, false, map[int]int{1: least, 2: -1, 3: 5}},
		{"a late failure undoes all", map[int]int{1: 1, 2: 2}, []api.Op{{Kind: api.Put, K: 1, A: 7}, {Kind: api.Del, K: 2}, {Kind: api.Add, K: 3, A: 3}, {Kind: api.Sum, K: 4, A: 0, B: 3}, {Kind: api.Need, K: 1, A: 1}}, false, map[int]int{1: 1, 2: 2}},
	} {
		table := tableOf(c.ahead)
		committed := table.Do([][]api.Op{c.txn})
		if !slices.Equal(committed, []bool{c.committed}) || table != tableOf(c.behind) {
			t.Errorf("%s: committed: %v; table: %v", c.name, committed, table)
		}
	}
}

func tableOf(values map[int]int) Table {
	var t Table
	for k, v := range values {
		t.Put(k, v)
	}
	return t
}

func TestTransactionsSeeThoseAhead(t *testing.T) {
	var table Table
	committed := table.Do([][]api.Op{
		{{Kind: api.Put, K: 1, A: 1}},
		{{Kind: api.Put, K: 1, A: 2}, {Kind: api.Lack, K: 1}},
		{{Kind: api.Need, K: 1, A: 1}, {Kind: api.Add, K: 1, A: 4}},
		{{Kind: api.Need, K: 1, A: 5}},
	})
	if !slices.Equal(committed, []bool{true, false, true, true}) || table != tableOf(map[int]int{1: 5}) {
		t.Errorf("committed: %v; table: %v", committed, table)
	}
}

func TestPlus(t *testing.T) {
	edges := []int{least, least + 1, least / 2, least/2 - 1, -2, -1, 0, 1, 2, most / 2, most/2 + 1, most - 1, most}
	random := rand.New(rand.NewPCG(1, 2))
	for range 50 {
		edges = append(edges, int(random.Uint64()))
	}
	for _, x := range edges {
		for _, y := range edges {
			want := new(big.Int).Add(big.NewInt(int64(x)), big.NewInt(int64(y)))
			sum, fits := plus(x, y)
			if fits != want.IsInt64() || fits && int64(sum) != want.Int64() {
				t.Errorf("%d plus %d: %d, %v", x, y, sum, fits)
			}
		}
	}
}

func TestIsBatch(t *testing.T) {
	put := api.Op{Kind: api.Put, K: 1, A: 1}
	of := func(op api.Op) [][]api.Op { return [][]api.Op{{op}} }
	for k, batch := range [][][]api.Op{
		of(put), slices.Repeat([][]api.Op{{put}}, 8), {slices.Repeat([]api.Op{put}, 8)},
		of(api.Op{Kind: api.Put, K: 0, A: least}), of(api.Op{Kind: api.Put, K: 63, A: most}), of(api.Op{Kind: api.Add, A: -1}), of(api.Op{Kind: api.Need, A: 64}),
		of(api.Op{Kind: api.Del, K: 63}), of(api.Op{Kind: api.Lack, K: 63}),
		of(api.Op{Kind: api.Sum}), of(api.Op{Kind: api.Sum, K: 63, A: 63, B: 63}), of(api.Op{Kind: api.Sum, A: 63}),
	} {
		if !IsBatch(batch) {
			t.Errorf("line %d: %v is a batch", k, batch)
		}
	}
	for k, batch := range [][][]api.Op{
		nil, {}, {nil}, {{}}, {{put}, nil}, slices.Repeat([][]api.Op{{put}}, 9), {slices.Repeat([]api.Op{put}, 9)}, {{put}, slices.Repeat([]api.Op{put}, 9)},
		of(api.Op{}), of(api.Op{Kind: -1}), of(api.Op{Kind: 7}), of(api.Op{Kind: 1 + 256}), of(api.Op{Kind: most}),
		of(api.Op{Kind: api.Put, K: -1}), of(api.Op{Kind: api.Put, K: 64}), of(api.Op{Kind: api.Del, K: least}), of(api.Op{Kind: api.Lack, K: 256}), of(api.Op{Kind: api.Sum, K: 64}),
		of(api.Op{Kind: api.Put, B: 1}), of(api.Op{Kind: api.Add, B: -1}), of(api.Op{Kind: api.Need, B: most}),
		of(api.Op{Kind: api.Del, A: 1}), of(api.Op{Kind: api.Del, B: 1}), of(api.Op{Kind: api.Lack, A: -1}), of(api.Op{Kind: api.Lack, B: 1}),
		of(api.Op{Kind: api.Sum, A: -1}), of(api.Op{Kind: api.Sum, A: 64}), of(api.Op{Kind: api.Sum, B: -1}), of(api.Op{Kind: api.Sum, B: 64}),
		{{put, put}, {put, {Kind: 9}}},
	} {
		if IsBatch(batch) {
			t.Errorf("line %d: %v is no batch", k, batch)
		}
	}
}
