package annal_test

import (
	"maps"
	"math/rand/v2"
	"strconv"
	"strings"
	"testing"

	"annal/annal"
	"annal/api"
)

// walker calls an annal at random, beside a plain account of what the document says of it.
type walker struct {
	random *rand.Rand
	a      *annal.Annal
	disk   storage
	tables []map[int]int // behind each batch
	frames []string      // of the batches that wait
	view   api.View
	size   int       // of the segment
	next   int       // segment
	job    []api.Act // what is still to be done
	taken  int       // how many batches the job writes
}

func newWalker(t *testing.T, random *rand.Rand) *walker {
	return &walker{random: random, a: mustOpen(t), disk: storage{}, tables: []map[int]int{{}}, view: api.View{Pages: -1}, next: 1}
}

func (w *walker) submit(t *testing.T) {
	batch := randomBatch(w.random)
	l, e := w.a.Submit(batch)
	want := api.OK
	if w.view.Reads {
		want = api.ErrRead
	} else if w.view.Waiting == api.MaxWaiting {
		want = api.ErrMany
	}
	if e != want || (e == api.OK) != (len(l) == len(batch)) {
		t.Fatalf("P3: Submit: %v, %d, want %d; %+v", l, e, want, w.view)
	}
	if e == api.OK {
		w.view.Last++
		w.view.Waiting++
		w.frames = append(w.frames, batchFrame(w.view.Last, batch))
		w.tables = append(w.tables, tableOf(t, w.a))
	}
}

func (w *walker) flush(t *testing.T) {
	want := api.OK
	if w.view.Job {
		want = api.ErrBusy
	} else if w.view.Reads {
		want = api.ErrRead
	} else if w.view.Waiting == 0 {
		want = api.ErrIdle
	}
	if e := w.a.Flush(); e != want {
		t.Fatalf("P6: Flush: %d, want %d; %+v", e, want, w.view)
	}
	if want != api.OK {
		return
	}
	segment := w.view.Segment
	if segment == 0 || w.size > 1000 {
		segment = w.next
		w.job = createActs(segment)
	}
	w.job = append(w.job, writeActs(segment, w.frames...)...)
	w.taken, w.view.Job = w.view.Waiting, true
}

func (w *walker) done(t *testing.T, ok bool) {
	want := api.OK
	if !w.view.Job {
		want = api.ErrIdle
	}
	if e := w.a.Done(ok); e != want {
		t.Fatalf("P4: Done(%v): %d, want %d; %+v", ok, e, want, w.view)
	}
	if want != api.OK {
		return
	}
	x := w.job[0]
	w.job = w.job[1:]
	if !ok {
		if w.random.IntN(2) == 0 { // an act that failed may have been done in part
			x.Data = x.Data[:w.random.IntN(len(x.Data)+1)]
			w.disk.do(t, x)
		}
		w.job, w.view.Job, w.view.Reads = nil, false, true
		return
	}
	w.disk.do(t, x)
	switch x.Kind {
	case api.SyncDir:
		w.view.Segment, w.size = w.next, 0
		w.next++
	case api.Append:
		w.size += len(x.Data)
	case api.Sync:
		w.frames = w.frames[w.taken:]
		w.view.Acked += w.taken
		w.view.Waiting -= w.taken
		w.view.Job = false
	}
}

// reopen: the disk may be opened at any time, and tells at least what was acknowledged.
func (w *walker) reopen(t *testing.T) {
	a := mustOpen(t, w.disk.files()...)
	last := a.Look().Last
	if last < w.view.Acked || last > w.view.Last || !maps.Equal(tableOf(t, a), w.tables[last]) {
		t.Fatalf("P10: read back: %+v of %+v: %v", a.Look(), w.view, tableOf(t, a))
	}
	w.a, w.tables, w.frames, w.job = a, w.tables[:last+1], nil, nil
	w.view = api.View{Last: last, Acked: last, Pages: -1}
	for name := range w.disk {
		if n, _ := strconv.Atoi(strings.TrimPrefix(name, "log.")); n >= w.next {
			w.next = n + 1
		}
	}
}

func (w *walker) check(t *testing.T) {
	if view := w.a.Look(); view != w.view {
		t.Fatalf("P9: %+v, want %+v", view, w.view)
	}
	var want api.Act
	if w.view.Job {
		want = w.job[0]
	}
	if x, is := w.a.Act(); x != want || is != w.view.Job {
		t.Fatalf("P4: Act: %#v, %v, want %#v", x, is, want)
	}
	if got := tableOf(t, w.a); !maps.Equal(got, w.tables[w.view.Last]) {
		t.Fatalf("P3: %v, want %v", got, w.tables[w.view.Last])
	}
}

func TestP4ToP9AnyCalls(t *testing.T) {
	met := map[string]int{}
	for seed := range uint64(60) {
		w := newWalker(t, rand.New(rand.NewPCG(seed, 15)))
		for range 400 {
			switch n := w.random.IntN(200); {
			case n == 0:
				w.reopen(t)
				met["reopen"]++
			case n < 80:
				w.submit(t)
			case n < 100:
				w.flush(t)
			default:
				w.done(t, n > 100)
			}
			w.check(t)
			if w.view.Reads {
				met["only read"]++
			}
			if w.view.Waiting == api.MaxWaiting {
				met["sixteen wait"]++
			}
			if w.view.Segment > 2 {
				met["segments"]++
			}
		}
	}
	for _, what := range []string{"reopen", "only read", "sixteen wait", "segments"} {
		if met[what] < 20 {
			t.Errorf("the calls tell too little: %s %d times", what, met[what])
		}
	}
	if met["only read"] > 60*400/2 {
		t.Errorf("the calls tell too little: most are refused: %v", met)
	}
}
