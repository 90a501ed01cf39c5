package annal_test

import (
	"slices"
	"testing"

	"annal/annal"
	"annal/api"
)

// starters: the calls that begin a job.
func starters(a *annal.Annal) map[string]func() api.Errno {
	return map[string]func() api.Errno{"Flush": a.Flush, "Start": a.Start, "Page": a.Page, "Trim": a.Trim}
}

// flushing: an annal with a Flush's job of four acts, the first ones of which are done.
func flushing(t *testing.T, done int) *annal.Annal {
	t.Helper()
	a := mustOpen(t)
	mustSubmit(t, a, put(1, 1))
	if e := a.Flush(); e != api.OK {
		t.Fatalf("P6: Flush: %d", e)
	}
	for range done {
		if e := a.Done(true); e != api.OK {
			t.Fatalf("P4: Done: %d", e)
		}
	}
	return a
}

func TestP4NoJob(t *testing.T) {
	waits := mustOpen(t)
	mustSubmit(t, waits, put(1, 1))
	failed := flushing(t, 2)
	failed.Done(false)
	for name, a := range map[string]*annal.Annal{"at first": mustOpen(t), "a batch waits": waits, "a job is over": flushing(t, 4), "a job has failed": failed} {
		view := a.Look()
		for range 3 {
			if x, is := a.Act(); is || x != (api.Act{}) {
				t.Errorf("P4: %s: Act: %#v, %v", name, x, is)
			}
			if e := a.Done(true); e != api.ErrIdle {
				t.Errorf("P4: %s: Done(true): %d", name, e)
			}
			if e := a.Done(false); e != api.ErrIdle {
				t.Errorf("P4: %s: Done(false): %d", name, e)
			}
		}
		mustLook(t, name, a, view)
	}
}

func TestP4ActsOneByOne(t *testing.T) {
	want := append(createActs(1), writeActs(1, batchFrame(1, put(1, 1)))...)
	a := flushing(t, 0)
	for k, act := range want {
		for range 3 {
			if x, is := a.Act(); !is || x != act {
				t.Errorf("P4: act %d: %#v, %v, want %#v", k, x, is, act)
			}
		}
		if !a.Look().Job {
			t.Errorf("P9: act %d: there is no job", k)
		}
		if e := a.Done(true); e != api.OK {
			t.Errorf("P4: act %d: Done: %d", k, e)
		}
	}
	mustLook(t, "behind the job", a, api.View{Last: 1, Acked: 1, Segment: 1, Pages: -1})
}

func TestP4AFailedJobIsOverAtOnce(t *testing.T) {
	for done := range 4 {
		a := flushing(t, done)
		if e := a.Done(false); e != api.OK {
			t.Errorf("P4: Done(false) of act %d: %d", done, e)
		}
		if x, is := a.Act(); is || x != (api.Act{}) || a.Look().Job {
			t.Errorf("P4: behind the failed act %d: %#v, %v", done, x, is)
		}
	}
}

func TestP5Busy(t *testing.T) {
	for done := range 4 {
		a := flushing(t, done)
		view := a.Look()
		act, _ := a.Act()
		for name, call := range starters(a) {
			if e := call(); e != api.ErrBusy {
				t.Errorf("P5: %s with a job: %d", name, e)
			}
		}
		mustLook(t, "calls that were refused", a, view)
		if x, is := a.Act(); x != act || !is {
			t.Errorf("P5: the job is another one: %#v, want %#v", x, act)
		}
		if left := acts(t, a); len(left) != 4-done {
			t.Errorf("P5: the job goes on otherwise: %#v", left)
		}
	}
}

func TestP5OnlyRead(t *testing.T) {
	for done := range 4 {
		a := flushing(t, done)
		a.Done(false)
		view := a.Look()
		for name, call := range starters(a) {
			if e := call(); e != api.ErrRead {
				t.Errorf("P5: %s where it can only be read: %d", name, e)
			}
		}
		mustLook(t, "calls that were refused", a, view)
	}
}

// jobs: annals that have a job of each kind, and how many acts it has.
func jobs(t *testing.T) map[string]struct {
	begin func() *annal.Annal
	acts  int
} {
	checkpoint := func(last int) func() *annal.Annal {
		return func() *annal.Annal {
			a := logged(t)
			for k := range last {
				mustJob(t, a, k)
				acts(t, a)
			}
			mustJob(t, a, last)
			return a
		}
	}
	trim := func() *annal.Annal {
		a := mustOpen(t, aged()...)
		if e := a.Trim(); e != api.OK {
			t.Fatalf("P8: Trim: %d", e)
		}
		return a
	}
	return map[string]struct {
		begin func() *annal.Annal
		acts  int
	}{"Start": {checkpoint(0), 1}, "Page 1": {checkpoint(1), 1}, "Page 7": {checkpoint(7), 1}, "Page 8": {checkpoint(8), 9}, "Trim": {trim, len(agedNames()) + 1}, "Flush": {func() *annal.Annal { return flushing(t, 0) }, 4}}
}

// Whatever the job, at each of its acts: no other one begins, and it goes on as if none had been asked for.
func TestP5BusyInEveryJob(t *testing.T) {
	for name, job := range jobs(t) {
		want := acts(t, job.begin())
		if len(want) != job.acts {
			t.Errorf("P4: %s: %#v", name, want)
		}
		a := job.begin()
		for k, act := range want {
			for call, starter := range starters(a) {
				refused(t, "P5: "+call+" in the job of "+name, a, starter, api.ErrBusy)
			}
			for range 2 {
				if x, is := a.Act(); x != act || !is {
					t.Errorf("P4: %s: act %d: %#v, want %#v", name, k, x, act)
				}
			}
			if e := a.Done(true); e != api.OK {
				t.Errorf("P4: %s: act %d: Done: %d", name, k, e)
			}
		}
		if x, is := a.Act(); is || x != (api.Act{}) || a.Done(true) != api.ErrIdle || a.Look().Job {
			t.Errorf("P4: behind %s: %#v", name, x)
		}
	}
}

// A job of any kind that failed is over at once.
func TestP4EveryJobThatFails(t *testing.T) {
	for name, job := range jobs(t) {
		for fail := range job.acts {
			a := job.begin()
			if got := actsBut(t, a, fail); len(got) != fail+1 || a.Done(true) != api.ErrIdle || a.Done(false) != api.ErrIdle || a.Look().Job {
				t.Errorf("P4: %s: act %d failed: %#v", name, fail, got)
			}
		}
	}
}

func TestP2JobsAreApart(t *testing.T) {
	a, b := flushing(t, 1), flushing(t, 2)
	a.Done(false)
	if left := acts(t, b); !slices.Equal(left, writeActs(1, batchFrame(1, put(1, 1)))) {
		t.Errorf("P2: another annal's job: %#v", left)
	}
	mustLook(t, "the one that failed", a, api.View{Last: 1, Waiting: 1, Pages: -1, Reads: true})
	mustLook(t, "the other", b, api.View{Last: 1, Acked: 1, Segment: 1, Pages: -1})
}
