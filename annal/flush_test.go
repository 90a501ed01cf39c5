package annal_test

import (
	"maps"
	"slices"
	"strconv"
	"strings"
	"testing"

	"annal/annal"
	"annal/api"
)

func TestP6Example(t *testing.T) {
	a := mustOpen(t)
	batch := [][]api.Op{
		{{Kind: api.Put, K: 5, A: 7}, {Kind: api.Need, K: 5, A: 7}},
		{{Kind: api.Add, K: 5, A: 1}, {Kind: api.Need, K: 5, A: 7}},
	}
	mustSubmit(t, a, batch)
	if got, want := mustFlush(t, a), append(createActs(1), writeActs(1, batchFrame(1, batch))...); !slices.Equal(got, want) {
		t.Errorf("P6: the first Flush: %#v, want %#v", got, want)
	}
	mustSubmit(t, a, put(1, -1))
	if got, want := mustFlush(t, a), writeActs(1, batchFrame(2, put(1, -1))); !slices.Equal(got, want) {
		t.Errorf("P6: the second Flush: %#v, want %#v", got, want)
	}
	mustLook(t, "behind both", a, api.View{Last: 2, Acked: 2, Segment: 1, Pages: -1})
}

// Every kind of operation, with numbers below 0 and the greatest lists, goes to the log as it was asked.
func TestP6Bytes(t *testing.T) {
	every := [][]api.Op{
		{{Kind: api.Put, K: 63, A: least}, {Kind: api.Del, K: 1}, {Kind: api.Add, K: 2, A: -1}},
		{{Kind: api.Need, K: 3, A: most}},
		{{Kind: api.Lack, K: 4}, {Kind: api.Sum, K: 5, A: 63, B: 6}},
	}
	full := slices.Repeat([][]api.Op{slices.Repeat([]api.Op{{Kind: api.Put, K: 7, A: 256}}, api.MaxOps)}, api.MaxTxns)
	a := mustOpen(t)
	mustSubmit(t, a, every)
	mustSubmit(t, a, full)
	want := append(createActs(1), writeActs(1, batchFrame(1, every), batchFrame(2, full))...)
	if got := mustFlush(t, a); !slices.Equal(got, want) {
		t.Errorf("P6: %#v, want %#v", got, want)
	}
}

func TestP6Idle(t *testing.T) {
	a := mustOpen(t)
	for range 2 {
		view := a.Look()
		for range 2 {
			if e := a.Flush(); e != api.ErrIdle {
				t.Errorf("P6: Flush where no batch waits: %d", e)
			}
		}
		mustLook(t, "a Flush that was refused", a, view)
		mustSubmit(t, a, put(1, 1))
		mustFlush(t, a)
	}
	a.Submit(nil)
	if e := a.Flush(); e != api.ErrIdle {
		t.Errorf("P6: Flush behind a batch that was refused: %d", e)
	}
}

// sized: batches whose frames have so many bytes in all.
func sized(bytes int) [][][]api.Op {
	del := api.Op{Kind: api.Del}
	var batches [][][]api.Op
	if bytes%2 == 1 {
		batches = append(batches, [][]api.Op{{del}, {del}}) // 17
		bytes -= 17
	}
	for ; bytes > 28; bytes -= 14 {
		batches = append(batches, [][]api.Op{{del}})
	}
	return append(batches, [][]api.Op{slices.Repeat([]api.Op{del}, (bytes-12)/2)})
}

// fill flushes so many bytes, a batch at a time.
func fill(t *testing.T, a *annal.Annal, bytes int) {
	t.Helper()
	got := 0
	for _, batch := range sized(bytes) {
		mustSubmit(t, a, batch)
		for _, x := range mustFlush(t, a) {
			got += len(x.Data)
		}
	}
	if got != bytes {
		t.Fatalf("P6: %d bytes were appended, not %d", got, bytes)
	}
}

func TestP6SegmentsOfAThousandBytes(t *testing.T) {
	for _, c := range []struct {
		bytes   int
		another bool
	}{{14, false}, {978, false}, {999, false}, {1000, false}, {1001, true}, {1002, true}, {1014, true}} {
		a := mustOpen(t, segmentFile(6, ""))
		fill(t, a, c.bytes)
		last := a.Look().Last
		mustLook(t, "a segment that is filled", a, api.View{Last: last, Acked: last, Segment: 7, Pages: -1})
		mustSubmit(t, a, put(1, 1))
		want := writeActs(7, batchFrame(last+1, put(1, 1)))
		if c.another {
			want = append(createActs(8), writeActs(8, batchFrame(last+1, put(1, 1)))...)
		}
		if got := mustFlush(t, a); !slices.Equal(got, want) {
			t.Errorf("P6: behind %d bytes: %#v, want %#v", c.bytes, got, want)
		}
	}
}

// The bytes of every segment are counted from 0 on.
func TestP6SegmentAfterSegment(t *testing.T) {
	a := mustOpen(t)
	for segment := 1; segment <= 5; segment++ {
		fill(t, a, 1000)
		mustLook(t, "1000 bytes", a, api.View{Last: a.Look().Last, Acked: a.Look().Last, Segment: segment, Pages: -1})
		fill(t, a, 14)
		mustLook(t, "1014 bytes", a, api.View{Last: a.Look().Last, Acked: a.Look().Last, Segment: segment, Pages: -1})
	}
}

// What waits does not count: only the bytes that the segment has.
func TestP6OneGreatAppend(t *testing.T) {
	a := mustOpen(t)
	full := slices.Repeat([][]api.Op{slices.Repeat([]api.Op{{Kind: api.Put, K: 7, A: 256}}, api.MaxOps)}, api.MaxTxns)
	fill(t, a, 1000)
	first := a.Look().Last + 1
	var frames []string
	for n := range api.MaxWaiting {
		mustSubmit(t, a, full)
		frames = append(frames, batchFrame(first+n, full))
	}
	if got := mustFlush(t, a); !slices.Equal(got, writeActs(1, frames...)) {
		t.Errorf("P6: 16 great batches: %d acts, %#v", len(got), got[0].Name)
	}
	mustSubmit(t, a, full)
	if got, want := mustFlush(t, a), append(createActs(2), writeActs(2, batchFrame(first+16, full))...); !slices.Equal(got, want) {
		t.Errorf("P6: behind them: %#v", got)
	}
	mustSubmit(t, a, full)
	if got, want := mustFlush(t, a), writeActs(2, batchFrame(first+17, full)); !slices.Equal(got, want) {
		t.Errorf("P6: the new segment's bytes are counted afresh: %#v", got)
	}
}

// The segment is another one behind the SyncDir, and no sooner.
func TestP6TheSegmentActByAct(t *testing.T) {
	a := mustOpen(t, segmentFile(6, ""))
	for _, segment := range []int{7, 8} {
		view := a.Look()
		mustSubmit(t, a, put(1, 1))
		a.Flush()
		view.Last, view.Waiting, view.Job = view.Last+1, 1, true
		for k, act := range append(createActs(segment), writeActs(segment, batchFrame(view.Last, put(1, 1)))...) {
			if x, _ := a.Act(); x != act {
				t.Errorf("P6: act %d: %#v, want %#v", k, x, act)
			}
			if k == 2 {
				view.Segment = segment
			}
			mustLook(t, "act "+strconv.Itoa(k), a, view)
			a.Done(true)
		}
		mustLook(t, "behind the job", a, api.View{Last: view.Last, Acked: view.Last, Segment: segment, Pages: -1})
		fill(t, a, 1001-22)
	}
}

func TestP6SixteenBatches(t *testing.T) {
	a := mustOpen(t)
	var frames []string
	for n := range api.MaxWaiting {
		mustSubmit(t, a, put(1, n))
		frames = append(frames, batchFrame(n+1, put(1, n)))
	}
	full := func(what string) {
		t.Helper()
		view := a.Look()
		if l, e := a.Submit(put(1, 99)); l != nil || e != api.ErrMany {
			t.Errorf("P3: a seventeenth %s: %v, %d", what, l, e)
		}
		mustLook(t, what, a, view)
	}
	full("ahead of the Flush")
	a.Flush()
	for k, act := range append(createActs(1), writeActs(1, frames...)...) {
		full("in the meantime")
		if x, _ := a.Act(); x != act {
			t.Errorf("P6: act %d: %#v, want %#v", k, x, act)
		}
		a.Done(true)
	}
	mustLook(t, "behind the job", a, api.View{Last: 16, Acked: 16, Segment: 1, Pages: -1})
	for n := range api.MaxWaiting {
		mustSubmit(t, a, put(2, n))
	}
	full("behind the job")
	if v, _, _ := a.Get(1); v != api.MaxWaiting-1 {
		t.Errorf("P1: a refused batch was done: %d", v)
	}
}

// A batch is submitted ahead of every act of the job, wherever its place is: it is left to the next Flush.
func TestP6InTheMeantime(t *testing.T) {
	for place := range 4 {
		for _, fails := range []bool{false, true} {
			a := mustOpen(t)
			mustSubmit(t, a, put(1, 1))
			mustSubmit(t, a, put(1, 2))
			a.Flush()
			want := append(createActs(1), writeActs(1, batchFrame(1, put(1, 1)), batchFrame(2, put(1, 2)))...)
			for k, act := range want {
				if k == place {
					mustSubmit(t, a, put(1, 3))
				}
				if x, _ := a.Act(); x != act {
					t.Errorf("P6: act %d: %#v, want %#v", k, x, act)
				}
				a.Done(k < 3 || !fails)
			}
			if fails {
				mustLook(t, "the job failed", a, api.View{Last: 3, Waiting: 3, Segment: 1, Pages: -1, Reads: true})
				continue
			}
			mustLook(t, "one was submitted in the meantime", a, api.View{Last: 3, Acked: 2, Waiting: 1, Segment: 1, Pages: -1})
			if got, want := mustFlush(t, a), writeActs(1, batchFrame(3, put(1, 3))); !slices.Equal(got, want) {
				t.Errorf("P6: the next Flush: %#v, want %#v", got, want)
			}
			mustLook(t, "behind the next Flush", a, api.View{Last: 3, Acked: 3, Segment: 1, Pages: -1})
		}
	}
}

func TestP6Failed(t *testing.T) {
	for _, c := range []struct {
		name   string
		bytes  int
		acts   int
		ahead  int // the segment that it had
		behind int // the one that the job writes to
	}{{"the first segment", 0, 4, 0, 1}, {"the same segment", 1000, 2, 1, 1}, {"another segment", 1001, 4, 1, 2}} {
		for fail := range c.acts {
			a := mustOpen(t)
			if c.bytes > 0 {
				fill(t, a, c.bytes)
			}
			acked := a.Look().Acked
			mustSubmit(t, a, put(1, 1))
			a.Flush()
			for k := range fail + 1 {
				if e := a.Done(k < fail); e != api.OK {
					t.Fatalf("P4: Done: %d", e)
				}
			}
			segment := c.behind
			if c.acts == 4 && fail < 2 {
				segment = c.ahead
			}
			view := api.View{Last: acked + 1, Acked: acked, Waiting: 1, Segment: segment, Pages: -1, Reads: true}
			mustLook(t, c.name+", act "+strconv.Itoa(fail), a, view)
			onlyRead(t, a)
			mustLook(t, c.name+", calls that were refused", a, view)
		}
	}
}

// onlyRead: key 1 is 1, and nothing can be changed.
func onlyRead(t *testing.T, a *annal.Annal) {
	t.Helper()
	for _, batch := range [][][]api.Op{put(1, 5), nil, {{{Kind: 99}}}} {
		if l, e := a.Submit(batch); l != nil || e != api.ErrRead {
			t.Errorf("P3: Submit(%v) where it can only be read: %v, %d", batch, l, e)
		}
	}
	if e := a.Flush(); e != api.ErrRead {
		t.Errorf("P5: Flush where it can only be read: %d", e)
	}
	if v, has, e := a.Get(1); v != 1 || !has || e != api.OK {
		t.Errorf("P3: Get where it can only be read: %d, %v, %d", v, has, e)
	}
	if _, _, e := a.Get(64); e != api.ErrArg {
		t.Errorf("P3: Get(64) where it can only be read: %d", e)
	}
}

func TestP3OnlyReadGoesAheadOfMany(t *testing.T) {
	a := mustOpen(t)
	for range api.MaxWaiting {
		mustSubmit(t, a, put(1, 1))
	}
	a.Flush()
	a.Done(false)
	onlyRead(t, a)
}

func TestP6TheLastSegment(t *testing.T) {
	for name, disk := range map[string][]api.File{"one is below it": {segmentFile(api.MaxNumber-1, "")}, "the manifest names it": {manifestFile(0, api.MaxNumber), segmentFile(5, "")}} {
		a := mustOpen(t, disk...)
		fill(t, a, 1000)
		mustLook(t, name, a, api.View{Last: a.Look().Last, Acked: a.Look().Last, Segment: api.MaxNumber, Pages: -1})
		if e := a.Flush(); e != api.ErrIdle {
			t.Errorf("P6: %s: Flush where no batch waits: %d", name, e)
		}
		fill(t, a, 14)
		if e := a.Flush(); e != api.ErrIdle {
			t.Errorf("P6: %s: ErrIdle is named ahead of ErrMany: %d", name, e)
		}
		noSegmentLeft(t, name, a)
	}
	noSegmentLeft(t, "it is on the disk", mustOpen(t, segmentFile(api.MaxNumber, "x")))
	noSegmentLeft(t, "it is on the disk and in the manifest", mustOpen(t, manifestFile(0, api.MaxNumber), segmentFile(api.MaxNumber, "")))
}

// noSegmentLeft: what is submitted waits, and cannot be flushed.
func noSegmentLeft(t *testing.T, name string, a *annal.Annal) {
	t.Helper()
	for n := range api.MaxWaiting {
		mustSubmit(t, a, put(1, n))
		view := a.Look()
		if e := a.Flush(); e != api.ErrMany || view.Waiting != n+1 {
			t.Errorf("P6: %s: Flush of %d batches: %d", name, view.Waiting, e)
		}
		mustLook(t, name, a, view)
	}
	if _, e := a.Submit(put(1, 1)); e != api.ErrMany {
		t.Errorf("P3: %s: a seventeenth: %d", name, e)
	}
}

func TestP6TheLastBatch(t *testing.T) {
	const b = api.MaxNumber - 1
	a := mustOpen(t, manifestFile(b, 3), checkpointFile(b, nil))
	mustSubmit(t, a, put(1, 1))
	if got, want := mustFlush(t, a), append(createActs(3), writeActs(3, batchFrame(api.MaxNumber, put(1, 1)))...); !slices.Equal(got, want) {
		t.Errorf("P6: the batch MaxNumber: %#v, want %#v", got, want)
	}
	view := api.View{Last: api.MaxNumber, Acked: api.MaxNumber, Base: b, Segment: 3, Pages: -1}
	mustLook(t, "behind the batch MaxNumber", a, view)
	if l, e := a.Submit(put(1, 2)); l != nil || e != api.ErrMany {
		t.Errorf("P3: a batch behind MaxNumber: %v, %d", l, e)
	}
	if e := a.Flush(); e != api.ErrIdle {
		t.Errorf("P6: Flush behind it: %d", e)
	}
	mustLook(t, "calls that were refused", a, view)
}

func TestP9BehindOpen(t *testing.T) {
	for _, c := range []struct {
		name string
		disk []api.File
		want api.View
	}{
		{"an empty disk", nil, api.View{Pages: -1}},
		{"a log", []api.File{segmentFile(4, batchFrame(1, put(1, 1))+batchFrame(2, put(1, 1)))}, api.View{Last: 2, Acked: 2, Pages: -1}},
		{"a manifest without a checkpoint", []api.File{manifestFile(0, 4), segmentFile(4, batchFrame(1, put(1, 1)))}, api.View{Last: 1, Acked: 1, Pages: -1}},
		{"a checkpoint", []api.File{manifestFile(7, 4), checkpointFile(7, nil)}, api.View{Last: 7, Acked: 7, Base: 7, Pages: -1}},
		{"a checkpoint and a log", []api.File{manifestFile(7, 4), checkpointFile(7, nil), segmentFile(4, batchFrame(7, put(1, 1))+batchFrame(8, put(1, 1))+"torn")}, api.View{Last: 8, Acked: 8, Base: 7, Pages: -1}},
		{"a checkpoint that no manifest names", []api.File{checkpointFile(7, nil)}, api.View{Pages: -1}},
	} {
		mustLook(t, c.name, mustOpen(t, c.disk...), c.want)
	}
}

func TestP10TheNextSegment(t *testing.T) {
	for _, c := range []struct {
		disk []api.File
		next int
	}{
		{nil, 1}, {[]api.File{segmentFile(4, "x"), segmentFile(12, "")}, 13}, {[]api.File{manifestFile(0, 5)}, 5},
		{[]api.File{manifestFile(0, 5), segmentFile(4, "")}, 5}, {[]api.File{manifestFile(0, 5), segmentFile(5, "")}, 6}, {[]api.File{{Name: "log.07"}, {Name: "log.1000000000"}}, 1},
	} {
		a := mustOpen(t, c.disk...)
		mustSubmit(t, a, put(1, 1))
		if got, want := mustFlush(t, a), append(createActs(c.next), writeActs(c.next, batchFrame(1, put(1, 1)))...); !slices.Equal(got, want) {
			t.Errorf("P10: behind Open(%v): %#v, want %#v", c.disk, got, want)
		}
	}
}

func TestP2ABatchThatWaitsIsNotTheCallersList(t *testing.T) {
	ops := []api.Op{{Kind: api.Put, K: 1, A: 1}, {Kind: api.Del, K: 2}}
	batch := [][]api.Op{ops[:1], ops[1:]}
	want := batchFrame(1, batch)
	a := mustOpen(t)
	mustSubmit(t, a, batch)
	ops[0], ops[1], batch[0] = api.Op{Kind: 9}, api.Op{Kind: 9}, nil
	a.Flush()
	if got := acts(t, a); !strings.HasSuffix(got[2].Data, want) || len(got[2].Data) != len(want) {
		t.Errorf("P2: Submit kept its argument: %x, want %x", got[2].Data, want)
	}
}

// All that is flushed is read back, and segments go on behind those that were there.
func TestP6ReadBack(t *testing.T) {
	disk, want := storage{}, map[int]int{}
	for round := 1; round <= 4; round++ {
		a := mustOpen(t, disk.files()...)
		if got := tableOf(t, a); !maps.Equal(got, want) {
			t.Fatalf("P6: round %d: %v, want %v", round, got, want)
		}
		for n := range 100 {
			batch := [][]api.Op{{{Kind: api.Add, K: n % 64, A: n - 50}}, {{Kind: api.Sum, K: 63, A: 0, B: 62}}}
			mustSubmit(t, a, batch)
			if n%3 == 0 {
				for _, x := range mustFlush(t, a) {
					disk.do(t, x)
				}
			}
		}
		mustLook(t, "the last batch is flushed", a, api.View{Last: round * 100, Acked: round * 100, Segment: a.Look().Segment, Pages: -1})
		want = tableOf(t, a)
	}
}
