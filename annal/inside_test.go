package annal

import (
	"testing"

	"annal/api"
)

// No call makes an annal that can only be read yet: so it is made here.
func TestP3OnlyRead(t *testing.T) {
	a, _ := Open(nil)
	a.Submit([][]api.Op{{{Kind: api.Put, K: 1, A: 4}}})
	a.reads = true
	ahead := *a
	for _, batch := range [][][]api.Op{{{{Kind: api.Put, K: 1, A: 5}}}, nil} {
		if l, e := a.Submit(batch); l != nil || e != api.ErrRead || *a != ahead {
			t.Errorf("P3: Submit(%v): %v, %d", batch, l, e)
		}
	}
	if v, has, e := a.Get(1); v != 4 || !has || e != api.OK {
		t.Errorf("P3: Get: %d, %v, %d", v, has, e)
	}
}

// The number of the next segment is not told by any call yet.
func TestP10NextSegment(t *testing.T) {
	for _, c := range []struct {
		disk []api.File
		next int
	}{{nil, 1}, {[]api.File{{Name: "log.4"}, {Name: "log.12"}}, 13}} {
		if a, e := Open(c.disk); e != api.OK || a.nextSegment != c.next || a.waiting != 0 {
			t.Errorf("P10: Open(%v): %v, %d", c.disk, a, e)
		}
	}
}
