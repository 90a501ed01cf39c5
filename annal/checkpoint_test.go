package annal_test

import (
	"maps"
	"math/rand/v2"
	"slices"
	"strconv"
	"testing"

	"annal/annal"
	"annal/api"
)

// logged: an annal with the segment 1, in which a batch Put 1 1 stands.
func logged(t *testing.T) *annal.Annal {
	t.Helper()
	a := mustOpen(t)
	mustSubmit(t, a, put(1, 1))
	mustFlush(t, a)
	return a
}

func TestP7Example(t *testing.T) {
	a := mustOpen(t)
	mustSubmit(t, a, [][]api.Op{
		{{Kind: api.Put, K: 5, A: 7}, {Kind: api.Need, K: 5, A: 7}},
		{{Kind: api.Add, K: 5, A: 1}, {Kind: api.Need, K: 5, A: 7}},
	})
	mustFlush(t, a)
	mustCheckpoint(t, a, 1, 1, map[int]int{5: 7})
	mustLook(t, "behind the checkpoint", a, api.View{Last: 1, Acked: 1, Base: 1, Pages: -1})
	if e := a.Trim(); e != api.ErrIdle {
		t.Errorf("P8: Trim: %d", e)
	}
	mustSubmit(t, a, put(1, 1))
	if got, want := mustFlush(t, a), append(createActs(2), writeActs(2, batchFrame(2, put(1, 1)))...); !slices.Equal(got, want) {
		t.Errorf("P7: the next Flush: %#v, want %#v", got, want)
	}
}

// Look behind every act of a checkpoint.
func TestP9APageAtATime(t *testing.T) {
	a := logged(t)
	view := a.Look()
	for k, job := range checkpointJobs(1, 1, map[int]int{1: 1}) {
		mustJob(t, a, k)
		view.Job, view.Pages = true, max(0, k-1)
		for i, act := range job {
			if i == 1 {
				view.Pages = 8
			}
			mustLook(t, "job "+strconv.Itoa(k)+", act "+strconv.Itoa(i), a, view)
			if x, is := a.Act(); x != act || !is {
				t.Errorf("P7: job %d: act %d: %#v, want %#v", k, i, x, act)
			}
			a.Done(true)
		}
		view.Job, view.Pages = false, k
		if k < 8 {
			mustLook(t, "behind the job "+strconv.Itoa(k), a, view)
		}
	}
	mustLook(t, "behind the checkpoint", a, api.View{Last: 1, Acked: 1, Base: 1, Pages: -1})
}

// Every page of every table is as it was at the Start, whatever is done ahead of it.
func TestP7TheTableAsItWas(t *testing.T) {
	random := rand.New(rand.NewPCG(21, 22))
	numbers := []int{least, -1, 0, 1, 255, 256, most}
	for range 100 {
		var txn []api.Op
		a := mustOpen(t)
		for k := range api.Keys {
			if random.IntN(3) > 0 {
				txn = append(txn, api.Op{Kind: api.Put, K: k, A: numbers[random.IntN(len(numbers))]})
			}
		}
		last := 0
		for part := range slices.Chunk(txn, api.MaxOps) {
			mustSubmit(t, a, [][]api.Op{part})
			last++
		}
		mustFlush(t, a)
		table := tableOf(t, a)
		for k, job := range checkpointJobs(last, 1, table) {
			mustJob(t, a, k)
			for _, act := range job {
				mustSubmit(t, a, [][]api.Op{{{Kind: api.Del, K: random.IntN(64)}}, {{Kind: api.Add, K: random.IntN(64), A: 1}}})
				if x, _ := a.Act(); x != act {
					t.Fatalf("P7: job %d: %#v, want %#v", k, x, act)
				}
				a.Done(true)
			}
			mustFlush(t, a)
		}
		if v := a.Look(); v.Base != last || v.Pages != -1 || v.Waiting != 0 {
			t.Errorf("P7: behind the checkpoint: %+v", v)
		}
	}
}

// A batch is submitted and flushed ahead of one of the jobs of a checkpoint: behind the Start it goes to the segment that was there, or to the one of which n told.
func TestP7BatchesGoOn(t *testing.T) {
	for _, segment := range []bool{false, true} {
		for place := 1; place <= 9; place++ {
			disk := storage{"log.1": batchFrame(1, put(1, 1))}
			a := mustOpen(t, disk.files()...)
			n := 2
			if segment {
				mustSubmit(t, a, put(1, 2))
				do(t, disk, mustFlush(t, a))
			}
			b, table := a.Look().Last, tableOf(t, a)
			for k, job := range append(checkpointJobs(b, n, table), nil) {
				if k == place {
					mustSubmit(t, a, put(8*k%64, k))
					got, want := mustFlush(t, a), writeActs(n, batchFrame(b+1, put(8*k%64, k)))
					if place == 9 { // behind the checkpoint
						want = append(createActs(3), writeActs(3, batchFrame(b+1, put(8*k%64, k)))...)
					} else if !segment {
						want = append(createActs(n), want...)
					}
					if !slices.Equal(got, want) {
						t.Fatalf("P7: ahead of job %d: %#v, want %#v", k, got, want)
					}
					do(t, disk, got)
				}
				if k == 9 {
					break
				}
				mustJob(t, a, k)
				if got := acts(t, a); !slices.Equal(got, job) {
					t.Fatalf("P7: job %d: %#v, want %#v", k, got, job)
				}
				do(t, disk, job)
			}
			view := api.View{Last: b + 1, Acked: b + 1, Base: b, Pages: -1}
			if place == 9 {
				view.Segment = 3
			}
			mustLook(t, "behind the checkpoint", a, view)
			if c := mustOpen(t, disk.files()...); !maps.Equal(tableOf(t, c), tableOf(t, a)) || c.Look().Last != b+1 || c.Look().Base != b {
				t.Errorf("P10: place %d: read back: %+v, %v", place, c.Look(), tableOf(t, c))
			}
			mustSubmit(t, a, put(2, 2))
			if got := mustFlush(t, a); place < 9 && got[0].Name != "log.3" {
				t.Errorf("P7: place %d: the next Flush: %#v", place, got)
			}
		}
	}
}

func do(t *testing.T, disk storage, list []api.Act) {
	t.Helper()
	for _, x := range list {
		disk.do(t, x)
	}
}

// The segment that the next Flush creates is above n, even if none has n.
func TestP7TheNextSegmentIsAboveN(t *testing.T) {
	a := mustOpen(t, segmentFile(4, batchFrame(1, put(1, 1))))
	mustCheckpoint(t, a, 1, 5, map[int]int{1: 1})
	mustSubmit(t, a, put(1, 2))
	if got, want := mustFlush(t, a), append(createActs(6), writeActs(6, batchFrame(2, put(1, 2)))...); !slices.Equal(got, want) {
		t.Errorf("P7: the next Flush: %#v, want %#v", got, want)
	}
}

// Segments that are created while a checkpoint is under way do not change what its manifest names.
func TestP7SegmentsGoOn(t *testing.T) {
	a := logged(t)
	segment := 1
	for k, job := range checkpointJobs(1, 1, map[int]int{1: 1}) {
		segment = a.Look().Segment
		mustJob(t, a, k)
		if got := acts(t, a); !slices.Equal(got, job) {
			t.Fatalf("P7: job %d: %#v, want %#v", k, got, job)
		}
		if k < 8 {
			fill(t, a, 1001)
		}
	}
	last := a.Look().Last
	mustLook(t, "behind the checkpoint", a, api.View{Last: last, Acked: last, Base: 1, Pages: -1})
	if e := a.Trim(); e != api.ErrIdle {
		t.Errorf("P8: every segment is still wanted: %d", e)
	}
	mustSubmit(t, a, put(1, 2))
	if got := mustFlush(t, a); segment < 8 || got[0] != createActs(segment + 1)[0] {
		t.Errorf("P7: the next Flush: %#v", got)
	}
}

// The bytes of the segment behind a checkpoint are counted afresh.
func TestP7TheNextSegmentIsEmpty(t *testing.T) {
	a := mustOpen(t)
	fill(t, a, 1001)
	mustCheckpoint(t, a, a.Look().Last, 1, nil)
	fill(t, a, 1000)
	if v := a.Look(); v.Segment != 2 {
		t.Errorf("P7: behind a checkpoint: %+v", v)
	}
	fill(t, a, 14)
	if v := a.Look(); v.Segment != 2 {
		t.Errorf("P6: 1000 bytes: %+v", v)
	}
	fill(t, a, 14)
	if v := a.Look(); v.Segment != 3 {
		t.Errorf("P6: 1014 bytes: %+v", v)
	}
}

func TestP7OneBehindTheOther(t *testing.T) {
	a := mustOpen(t)
	for b := 1; b <= 12; b++ {
		mustSubmit(t, a, put(b, b))
		mustFlush(t, a)
		mustLook(t, "a batch", a, api.View{Last: b, Acked: b, Base: b - 1, Segment: b, Pages: -1})
		mustCheckpoint(t, a, b, b, tableOf(t, a))
		mustLook(t, "a checkpoint", a, api.View{Last: b, Acked: b, Base: b, Pages: -1})
		if b > 1 {
			mustTrim(t, a, "log."+strconv.Itoa(b-1), "ckpt."+strconv.Itoa(b-1))
		}
	}
}

// Behind a checkpoint in which batches went on there is no segment, and another one may begin at once.
func TestP7ASecondWithoutASegment(t *testing.T) {
	a := logged(t)
	for k := range 9 {
		mustJob(t, a, k)
		acts(t, a)
		if k == 4 {
			mustSubmit(t, a, put(2, 2))
			mustFlush(t, a)
		}
	}
	mustLook(t, "the first", a, api.View{Last: 2, Acked: 2, Base: 1, Pages: -1})
	mustCheckpoint(t, a, 2, 2, map[int]int{1: 1, 2: 2})
	mustLook(t, "the second", a, api.View{Last: 2, Acked: 2, Base: 2, Pages: -1})
	mustSubmit(t, a, put(3, 3))
	if got := mustFlush(t, a); got[0] != (api.Act{Kind: api.Create, Name: "log.3"}) {
		t.Errorf("P7: the next Flush: %#v", got)
	}
	mustTrim(t, a, "log.1", "ckpt.1")
}

func refused(t *testing.T, what string, a *annal.Annal, call func() api.Errno, want api.Errno) {
	t.Helper()
	view := a.Look()
	for range 2 {
		if e := call(); e != want {
			t.Errorf("%s: %d, want %d", what, e, want)
		}
		mustLook(t, what, a, view)
	}
}

func TestP7StartIsRefused(t *testing.T) {
	a := mustOpen(t)
	refused(t, "P7: no batch ever", a, a.Start, api.ErrIdle)
	a.Submit(nil)
	refused(t, "P7: no batch ever, but one that was none", a, a.Start, api.ErrIdle)
	mustSubmit(t, a, put(1, 1))
	refused(t, "P7: a batch waits", a, a.Start, api.ErrIdle)
	mustFlush(t, a)
	mustSubmit(t, a, put(1, 2))
	refused(t, "P7: one of two waits", a, a.Start, api.ErrIdle)
	mustFlush(t, a)
	mustCheckpoint(t, a, 2, 1, map[int]int{1: 2})
	refused(t, "P7: no batch since", a, a.Start, api.ErrIdle)
	mustSubmit(t, a, [][]api.Op{{{Kind: api.Need, K: 9}}})
	refused(t, "P7: a batch since, which waits", a, a.Start, api.ErrIdle)
	mustFlush(t, a)
	mustJob(t, a, 0)
	acts(t, a)
	for k := 1; k <= 7; k++ {
		refused(t, "P7: one is under way", a, a.Start, api.ErrBusy)
		mustSubmit(t, a, put(1, k))
		refused(t, "P7: one is under way, and a batch waits", a, a.Start, api.ErrBusy)
		mustFlush(t, a)
		mustJob(t, a, k)
		acts(t, a)
	}
	mustJob(t, a, 8)
	acts(t, a)
	if e := a.Start(); e != api.OK {
		t.Errorf("P7: behind it: %d", e)
	}
}

// What was read back counts as what was submitted.
func TestP7StartBehindOpen(t *testing.T) {
	checkpoint := []api.File{manifestFile(7, 3), checkpointFile(7, map[int]int{4: 4})}
	for _, c := range []struct {
		name string
		disk []api.File
		want api.Errno
	}{
		{"a checkpoint", checkpoint, api.ErrIdle},
		{"a checkpoint and the log ahead of it", append(checkpoint, segmentFile(3, batchFrame(7, put(1, 1)))), api.ErrIdle},
		{"a checkpoint and the log behind it", append(checkpoint, segmentFile(3, batchFrame(8, put(1, 1)))), api.OK},
		{"a log", []api.File{segmentFile(3, batchFrame(1, put(1, 1)))}, api.OK},
		{"a checkpoint that no manifest names", []api.File{checkpointFile(7, nil)}, api.ErrIdle},
	} {
		if e := mustOpen(t, c.disk...).Start(); e != c.want {
			t.Errorf("P7: Start behind Open: %s: %d, want %d", c.name, e, c.want)
		}
	}
	a := mustOpen(t, append(checkpoint, segmentFile(3, batchFrame(8, put(1, 1))))...)
	mustCheckpoint(t, a, 8, 4, map[int]int{1: 1, 4: 4})
	mustTrim(t, a, "log.3", "ckpt.7")
}

func TestP7PageIsRefused(t *testing.T) {
	a := mustOpen(t)
	refused(t, "P7: at first", a, a.Page, api.ErrIdle)
	mustSubmit(t, a, put(1, 1))
	refused(t, "P7: a batch waits", a, a.Page, api.ErrIdle)
	mustFlush(t, a)
	refused(t, "P7: a batch is flushed", a, a.Page, api.ErrIdle)
	mustCheckpoint(t, a, 1, 1, map[int]int{1: 1})
	refused(t, "P7: a ninth page", a, a.Page, api.ErrIdle)
}

func TestP7Failed(t *testing.T) {
	for k, job := range checkpointJobs(1, 1, map[int]int{1: 1}) {
		for fail := range job {
			a := logged(t)
			for i := range k {
				mustJob(t, a, i)
				acts(t, a)
			}
			mustJob(t, a, k)
			if got := actsBut(t, a, fail); !slices.Equal(got, job[:fail+1]) {
				t.Fatalf("P4: act %d of job %d failed: %#v", fail, k, got)
			}
			name := "act " + strconv.Itoa(fail) + " of job " + strconv.Itoa(k)
			if fail >= 7 {
				mustLook(t, name, a, api.View{Last: 1, Acked: 1, Segment: 1, Pages: -1, Reads: true})
				onlyRead(t, a)
				for call, starter := range starters(a) {
					refused(t, "P5: "+call, a, starter, api.ErrRead)
				}
				continue
			}
			mustLook(t, name, a, api.View{Last: 1, Acked: 1, Segment: 1, Pages: -1})
			refused(t, "P7: Page behind "+name, a, a.Page, api.ErrIdle)
			goesOn(t, a, k > 0)
		}
	}
}

// goesOn: the checkpoint of batch 1 failed; the same one may be begun again, or another one.
func goesOn(t *testing.T, a *annal.Annal, created bool) {
	t.Helper()
	mustJob(t, a, 0)
	if got := acts(t, a); !slices.Equal(got, []api.Act{{Kind: api.Create, Name: "ckpt.1"}}) {
		t.Errorf("P7: the same checkpoint again: %#v", got)
	}
	mustLook(t, "the same checkpoint again", a, api.View{Last: 1, Acked: 1, Segment: 1})
	mustJob(t, a, 1)
	actsBut(t, a, 0)
	mustSubmit(t, a, put(2, 2))
	if got, want := mustFlush(t, a), writeActs(1, batchFrame(2, put(2, 2))); !slices.Equal(got, want) {
		t.Errorf("P7: Flush behind it: %#v, want %#v", got, want)
	}
	mustCheckpoint(t, a, 2, 1, map[int]int{1: 1, 2: 2})
	mustLook(t, "another checkpoint", a, api.View{Last: 2, Acked: 2, Base: 2, Pages: -1})
	mustTrim(t, a, "ckpt.1")
}

// The manifest still names the first checkpoint when the second one fails.
func TestP7TheSecondFails(t *testing.T) {
	for fail := range 9 {
		a := logged(t)
		mustCheckpoint(t, a, 1, 1, map[int]int{1: 1})
		mustSubmit(t, a, put(2, 2))
		mustFlush(t, a)
		for k := range 8 {
			mustJob(t, a, k)
			acts(t, a)
		}
		mustJob(t, a, 8)
		actsBut(t, a, fail)
		mustLook(t, "act "+strconv.Itoa(fail), a, api.View{Last: 2, Acked: 2, Base: 1, Segment: 2, Pages: -1, Reads: fail >= 7})
		if fail < 7 {
			mustTrim(t, a, "ckpt.2")
			mustCheckpoint(t, a, 2, 2, map[int]int{1: 1, 2: 2})
			mustTrim(t, a, "log.1", "ckpt.1")
		}
	}
}

// A Flush that fails does not end the checkpoint, but no page can be written any more.
func TestP7AFlushFailsMeanwhile(t *testing.T) {
	for pages := range 8 {
		a := logged(t)
		for k := range pages + 1 {
			mustJob(t, a, k)
			acts(t, a)
		}
		mustSubmit(t, a, put(2, 2))
		a.Flush()
		a.Done(false)
		mustLook(t, "a Flush failed", a, api.View{Last: 2, Acked: 1, Waiting: 1, Segment: 1, Pages: pages, Reads: true})
		for call, starter := range starters(a) {
			refused(t, "P5: "+call, a, starter, api.ErrRead)
		}
	}
}

func TestP7TheLastSegment(t *testing.T) {
	with := mustOpen(t, segmentFile(api.MaxNumber-1, batchFrame(1, put(1, 1))))
	mustSubmit(t, with, put(1, 2))
	mustFlush(t, with)
	mustCheckpoint(t, with, 2, api.MaxNumber, map[int]int{1: 2})
	without := mustOpen(t, segmentFile(api.MaxNumber-1, batchFrame(1, put(1, 1))))
	mustCheckpoint(t, without, 1, api.MaxNumber, map[int]int{1: 1})
	for _, a := range []*annal.Annal{with, without} {
		mustLook(t, "a manifest with n MaxNumber", a, api.View{Last: a.Look().Last, Acked: a.Look().Last, Base: a.Look().Last, Pages: -1})
		refused(t, "P7: nothing since", a, a.Start, api.ErrIdle)
		noSegmentLeft(t, "behind a manifest with n MaxNumber", a)
		refused(t, "P7: batches wait", a, a.Start, api.ErrIdle)
	}
	full := mustOpen(t, segmentFile(api.MaxNumber, batchFrame(1, put(1, 1))))
	refused(t, "P7: no segment is left", full, full.Start, api.ErrMany)
	refused(t, "P7: none is under way", full, full.Page, api.ErrIdle)
	mustSubmit(t, full, put(1, 1))
	refused(t, "P1: ErrIdle is named ahead of ErrMany", full, full.Start, api.ErrIdle)
	empty := mustOpen(t, segmentFile(api.MaxNumber, ""))
	refused(t, "P1: ErrIdle is named ahead of ErrMany", empty, empty.Start, api.ErrIdle)
}

// It has the last segment, and goes on in it while a checkpoint is under way; behind it there is none.
func TestP7TheLastSegmentGoesOn(t *testing.T) {
	a := mustOpen(t, segmentFile(api.MaxNumber-1, ""))
	fill(t, a, 1001)
	b := a.Look().Last
	mustJob(t, a, 0)
	acts(t, a)
	mustSubmit(t, a, put(1, 1))
	refused(t, "P6: no segment is left", a, a.Flush, api.ErrMany)
	for k := 1; k <= 8; k++ {
		mustJob(t, a, k)
		acts(t, a)
	}
	mustLook(t, "behind the checkpoint", a, api.View{Last: b + 1, Acked: b, Waiting: 1, Base: b, Pages: -1})
	refused(t, "P6: no segment is left", a, a.Flush, api.ErrMany)
}

func TestP7TheLastBatch(t *testing.T) {
	const b = api.MaxNumber - 1
	a := mustOpen(t, manifestFile(b, 3), checkpointFile(b, nil))
	mustSubmit(t, a, put(1, 1))
	mustFlush(t, a)
	mustCheckpoint(t, a, api.MaxNumber, 3, map[int]int{1: 1})
	mustLook(t, "behind the checkpoint", a, api.View{Last: api.MaxNumber, Acked: api.MaxNumber, Base: api.MaxNumber, Pages: -1})
	refused(t, "P7: nothing since", a, a.Start, api.ErrIdle)
	if _, e := a.Submit(put(1, 1)); e != api.ErrMany {
		t.Errorf("P3: a batch behind MaxNumber: %d", e)
	}
	mustTrim(t, a, "ckpt.999999998")
}

func TestP2CheckpointsAreApart(t *testing.T) {
	a, b := logged(t), logged(t)
	mustJob(t, a, 0)
	acts(t, a)
	refused(t, "P2: another annal's checkpoint", b, b.Page, api.ErrIdle)
	mustSubmit(t, b, put(1, 9))
	mustFlush(t, b)
	mustCheckpoint(t, b, 2, 1, map[int]int{1: 9})
	mustLook(t, "the one", a, api.View{Last: 1, Acked: 1, Segment: 1})
	for k, job := range checkpointJobs(1, 1, map[int]int{1: 1})[1:] {
		mustJob(t, a, k+1)
		if got := acts(t, a); !slices.Equal(got, job) {
			t.Errorf("P2: job %d: %#v, want %#v", k+1, got, job)
		}
	}
}
