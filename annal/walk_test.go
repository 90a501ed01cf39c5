package annal_test

import (
	"maps"
	"math/rand/v2"
	"slices"
	"strconv"
	"strings"
	"testing"

	"annal/annal"
	"annal/api"
)

// walker calls an annal at random, beside a plain account of what the document says of it.
type walker struct {
	random *rand.Rand
	a      *annal.Annal
	disk   *platter
	tables []map[int]int // behind each batch
	frames []string      // of the batches that wait
	view   api.View
	size   int // of the segment
	next   int // segment
	n      int // the manifest's
	b, bn  int // of the checkpoint under way, and the n that its manifest will have
	// The numbers of the segments and checkpoints of which the annal knows.
	segments, checkpoints []int
	job                   []api.Act // what is still to be done
	kind                  string    // of the job
	taken                 int       // how many batches the job writes
	submits               int       // of a thousand calls so many are Submit
	met                   map[string]int
}

func newWalker(t *testing.T, random *rand.Rand, met map[string]int) *walker {
	return &walker{random: random, a: mustOpen(t), disk: newPlatter(), tables: []map[int]int{{}}, view: api.View{Pages: -1}, next: 1, n: 1, met: met}
}

func (w *walker) submit(t *testing.T) {
	batch := randomBatch(w.random)
	l, e := w.a.Submit(batch)
	want := api.OK
	if w.view.Reads {
		want = api.ErrRead
	} else if w.view.Waiting == api.MaxWaiting {
		want = api.ErrMany
	}
	if e != want || (e == api.OK) != (len(l) == len(batch)) {
		t.Fatalf("P3: Submit: %v, %d, want %d; %+v", l, e, want, w.view)
	}
	if e == api.OK {
		w.view.Last++
		w.view.Waiting++
		w.frames = append(w.frames, batchFrame(w.view.Last, batch))
		w.tables = append(w.tables, tableOf(t, w.a))
	}
}

// begin: a call answers as it must, and a job of these acts begins if it was not refused.
func (w *walker) begin(t *testing.T, kind string, call func() api.Errno, refusal api.Errno, acts func() []api.Act) {
	want := refusal
	if w.view.Job {
		want = api.ErrBusy
	} else if w.view.Reads {
		want = api.ErrRead
	}
	if e := call(); e != want {
		t.Fatalf("P5 to P8: %s: %d, want %d; %+v", kind, e, want, w.view)
	}
	w.met[kind+" "+strconv.Itoa(int(want))]++
	if want == api.OK {
		w.job, w.kind, w.view.Job = acts(), kind, true
	}
}

func (w *walker) flush(t *testing.T) {
	refusal := api.OK
	if w.view.Waiting == 0 {
		refusal = api.ErrIdle
	}
	w.begin(t, "Flush", w.a.Flush, refusal, func() []api.Act {
		w.taken = w.view.Waiting
		if w.view.Segment == 0 || w.size > 1000 {
			return append(createActs(w.next), writeActs(w.next, w.frames...)...)
		}
		return writeActs(w.view.Segment, w.frames...)
	})
}

func (w *walker) start(t *testing.T) {
	refusal := api.OK
	if w.view.Pages >= 0 {
		refusal = api.ErrBusy
	} else if w.view.Last == w.view.Base || w.view.Waiting > 0 {
		refusal = api.ErrIdle
	}
	w.begin(t, "Start", w.a.Start, refusal, func() []api.Act {
		w.b, w.bn, w.view.Pages = w.view.Last, w.view.Segment, 0
		if w.bn == 0 {
			w.bn = w.next
			w.met["Start without a segment"]++
		}
		return checkpointJobs(w.b, w.bn, nil)[0]
	})
}

func (w *walker) page(t *testing.T) {
	refusal := api.OK
	if w.view.Pages < 0 {
		refusal = api.ErrIdle
	}
	w.begin(t, "Page", w.a.Page, refusal, func() []api.Act {
		return checkpointJobs(w.b, w.bn, w.tables[w.b])[1+w.view.Pages]
	})
}

// old: the names of the files that Trim removes.
func (w *walker) old() []string {
	var names []string
	for _, n := range slices.Sorted(slices.Values(w.segments)) {
		if n < w.n {
			names = append(names, "log."+strconv.Itoa(n))
		}
	}
	for _, b := range slices.Sorted(slices.Values(w.checkpoints)) {
		if b != w.view.Base && (w.view.Pages < 0 || b != w.b) {
			names = append(names, "ckpt."+strconv.Itoa(b))
		}
	}
	return names
}

func (w *walker) trim(t *testing.T) {
	refusal := api.OK
	if len(w.old()) == 0 {
		refusal = api.ErrIdle
	}
	w.begin(t, "Trim", w.a.Trim, refusal, func() []api.Act { return trimActs(w.old()...) })
}

func (w *walker) done(t *testing.T, ok bool) {
	want := api.OK
	if !w.view.Job {
		want = api.ErrIdle
	}
	if e := w.a.Done(ok); e != want {
		t.Fatalf("P4: Done(%v): %d, want %d; %+v", ok, e, want, w.view)
	}
	if want != api.OK {
		return
	}
	x := w.job[0]
	w.job = w.job[1:]
	if !ok {
		w.failed(t, x)
		return
	}
	w.disk.do(t, x)
	w.view.Job = len(w.job) > 0
	switch w.kind {
	case "Flush":
		w.flushed(x)
	case "Start":
		w.checkpoints = slices.Compact(slices.Sorted(slices.Values(append(w.checkpoints, w.b))))
	case "Page":
		w.paged(x)
	case "Trim":
		w.segments = slices.DeleteFunc(w.segments, func(n int) bool { return x.Name == "log."+strconv.Itoa(n) })
		w.checkpoints = slices.DeleteFunc(w.checkpoints, func(b int) bool { return x.Name == "ckpt."+strconv.Itoa(b) })
	}
}

func (w *walker) flushed(x api.Act) {
	switch x.Kind {
	case api.SyncDir:
		w.view.Segment, w.size = w.next, 0
		w.segments = append(w.segments, w.next)
		w.next++
	case api.Append:
		w.size += len(x.Data)
	case api.Sync:
		w.frames = w.frames[w.taken:]
		w.view.Acked += w.taken
		w.view.Waiting -= w.taken
	}
}

func (w *walker) paged(x api.Act) {
	if len(w.job) == 0 && x.Kind == api.SyncDir {
		w.view.Base, w.n, w.view.Segment, w.view.Pages = w.b, w.bn, 0, -1
		w.next = max(w.next, w.n+1)
	} else if w.view.Pages < 8 {
		w.view.Pages++
	}
}

// failed: the act was done in part, or as a whole, or not at all. (A file whose Remove failed is still there.)
func (w *walker) failed(t *testing.T, x api.Act) {
	w.met["failed "+w.kind]++
	if w.random.IntN(2) == 0 && x.Kind != api.Sync && x.Kind != api.SyncDir && x.Kind != api.Remove {
		x.Data = x.Data[:w.random.IntN(len(x.Data)+1)]
		w.disk.do(t, x)
	}
	if w.kind == "Start" || w.kind == "Page" {
		w.view.Pages = -1
	}
	if w.kind == "Flush" || w.kind == "Page" && (x.Kind == api.Rename || x.Kind == api.SyncDir && len(w.job) == 0) {
		w.view.Reads = true
		w.met["only read by "+w.kind]++
	}
	w.job, w.view.Job = nil, false
}

// reopen: the computer fails at any time, and what it leaves tells at least what was acknowledged.
func (w *walker) reopen(t *testing.T) {
	left := w.disk.left(w.random.IntN(len(w.disk.stages)), torn(w.random))
	w.a, w.disk = mustOpen(t, left...), newPlatter(left...)
	last, base := w.a.Look().Last, w.a.Look().Base
	if last < w.view.Acked || last > w.view.Last || base < w.view.Base || !maps.Equal(tableOf(t, w.a), w.tables[last]) {
		t.Fatalf("P11: read back: %+v of %+v: %v", w.a.Look(), w.view, tableOf(t, w.a))
	}
	w.tables, w.frames, w.job = w.tables[:last+1], nil, nil
	w.segments, w.checkpoints, w.n = nil, nil, 1
	for _, f := range left {
		if digits, is := strings.CutPrefix(f.Name, "log."); is {
			n, _ := strconv.Atoi(digits)
			w.segments = append(w.segments, n)
		} else if digits, is := strings.CutPrefix(f.Name, "ckpt."); is {
			b, _ := strconv.Atoi(digits)
			w.checkpoints = append(w.checkpoints, b)
		} else if f.Name == "manifest" {
			w.n = int(f.Data[10]) + int(f.Data[11])<<8
		}
	}
	w.next = max(w.n, slices.Max(append(w.segments, 0))+1)
	w.view = api.View{Last: last, Acked: last, Base: base, Pages: -1}
	w.met["reopen"]++
}

func (w *walker) check(t *testing.T) {
	if view := w.a.Look(); view != w.view {
		t.Fatalf("P9: %+v, want %+v", view, w.view)
	}
	var want api.Act
	if w.view.Job {
		want = w.job[0]
	}
	if x, is := w.a.Act(); x != want || is != w.view.Job {
		t.Fatalf("P4: Act: %#v, %v, want %#v", x, is, want)
	}
	if got := tableOf(t, w.a); !maps.Equal(got, w.tables[w.view.Last]) {
		t.Fatalf("P3: %v, want %v", got, w.tables[w.view.Last])
	}
	if w.view.Waiting == api.MaxWaiting {
		w.met["sixteen wait"]++
	}
	if w.view.Segment > 2 {
		w.met["segments"]++
	}
	if w.view.Pages > 0 && w.view.Last > w.b {
		w.met["batches in the midst of a checkpoint"]++
	}
	if w.view.Base > 0 && w.b > w.view.Base && w.view.Pages > 0 {
		w.met["a checkpoint behind another"]++
	}
}

func (w *walker) step(t *testing.T) {
	switch n := w.random.IntN(1000); {
	case n < 5 || w.view.Reads && n < 100:
		w.reopen(t)
	case n < w.submits:
		w.submit(t)
	case n < 250:
		w.flush(t)
	case n < 350:
		w.start(t)
	case n < 500:
		w.page(t)
	case n < 530:
		w.trim(t)
	default:
		w.done(t, n > 538)
	}
}

func TestP4ToP11AnyCalls(t *testing.T) {
	met := map[string]int{}
	for seed := range uint64(160) {
		w := newWalker(t, rand.New(rand.NewPCG(seed, 15)), met)
		w.submits = 100 + 20*int(seed%8)
		for range 2000 {
			w.step(t)
			w.check(t)
		}
	}
	for _, what := range []string{
		"reopen", "sixteen wait", "segments", "Start without a segment", "batches in the midst of a checkpoint", "a checkpoint behind another",
		"failed Flush", "failed Start", "failed Page", "failed Trim", "only read by Flush", "only read by Page",
		"Flush 0", "Flush 3", "Flush 4", "Flush 5", "Start 0", "Start 3", "Start 4", "Start 5", "Page 0", "Page 3", "Page 4", "Page 5", "Trim 0", "Trim 3", "Trim 4", "Trim 5",
	} {
		if met[what] < 20 {
			t.Errorf("the calls tell too little: %s %d times", what, met[what])
		}
	}
}
