package annal_test

import (
	"slices"
	"strconv"
	"testing"

	"annal/api"
)

// aged: a disk with old files and such as are not.
func aged() []api.File {
	return []api.File{
		segmentFile(13, ""), segmentFile(12, batchFrame(8, put(1, 1))), segmentFile(11, "x"), segmentFile(2, ""), segmentFile(10, ""),
		{Name: "ckpt.10", Data: "x"}, {Name: "ckpt.9"}, checkpointFile(7, nil), {Name: "ckpt.999999999"}, checkpointFile(1, nil), manifestFile(7, 12),
		{Name: "log.0"}, {Name: "log.01"}, {Name: "log.-1"}, {Name: "log."}, {Name: "log"}, {Name: "log.1x"}, {Name: "ckpt.0"}, {Name: "ckpt.01"}, {Name: "ckpt."}, {Name: "ckpt.1000000000"}, {Name: "ckpt.x"}, {Name: "manifest.new"}, {Name: ""},
	}
}

func agedNames() []string {
	return []string{"log.2", "log.10", "log.11", "ckpt.1", "ckpt.9", "ckpt.10", "ckpt.999999999"}
}

func TestP8FilesThatStoodThere(t *testing.T) {
	a := mustOpen(t, aged()...)
	view := a.Look()
	mustTrim(t, a, agedNames()...)
	mustLook(t, "behind Trim", a, view)
	refused(t, "P8: nothing is old any more", a, a.Trim, api.ErrIdle)
}

func TestP8Idle(t *testing.T) {
	for k, disk := range [][]api.File{
		nil, {manifestFile(0, 1)}, {manifestFile(0, 1), segmentFile(1, ""), segmentFile(2, "")}, {segmentFile(api.MaxNumber, "")},
		{manifestFile(7, 3), checkpointFile(7, nil), segmentFile(3, "")}, {manifestFile(0, api.MaxNumber), segmentFile(api.MaxNumber, "")}, {{Name: "manifest.new"}, {Name: "ckpt.0"}, {Name: "log.07"}},
	} {
		a := mustOpen(t, disk...)
		refused(t, "P8: nothing is old", a, a.Trim, api.ErrIdle)
		mustSubmit(t, a, put(1, 1))
		refused(t, "P8: nothing is old, and a batch waits", a, a.Trim, api.ErrIdle)
		if t.Failed() {
			t.Fatalf("line %d", k)
		}
	}
}

// Without a manifest no segment is old, but every checkpoint is; with one of b 0, too.
func TestP8WithoutACheckpoint(t *testing.T) {
	mustTrim(t, mustOpen(t, checkpointFile(3, nil), segmentFile(1, ""), checkpointFile(20, nil)), "ckpt.3", "ckpt.20")
	mustTrim(t, mustOpen(t, checkpointFile(3, nil), segmentFile(1, ""), manifestFile(0, 2)), "log.1", "ckpt.3")
	mustTrim(t, mustOpen(t, segmentFile(api.MaxNumber-1, ""), segmentFile(api.MaxNumber, ""), manifestFile(0, api.MaxNumber)), "log.999999998")
}

// What was removed ahead of an act that failed is gone; all else is still old.
func TestP8Failed(t *testing.T) {
	names := agedNames()
	for fail := range len(names) + 1 {
		a := mustOpen(t, aged()...)
		view := a.Look()
		if e := a.Trim(); e != api.OK {
			t.Fatalf("P8: Trim: %d", e)
		}
		if got, want := actsBut(t, a, fail), trimActs(names...)[:fail+1]; !slices.Equal(got, want) {
			t.Fatalf("P8: act %d failed: %#v, want %#v", fail, got, want)
		}
		mustLook(t, "a Trim failed", a, view)
		mustSubmit(t, a, put(1, 1))
		mustFlush(t, a)
		if fail < len(names) {
			mustTrim(t, a, names[fail:]...)
		}
		refused(t, "P8: nothing is old any more", a, a.Trim, api.ErrIdle)
	}
}

// Removes are done here and there, each time one more.
func TestP8FailedAgainAndAgain(t *testing.T) {
	a := mustOpen(t, aged()...)
	for names := agedNames(); len(names) > 0; names = names[1:] {
		for range 2 {
			a.Trim()
			if got := actsBut(t, a, 0); !slices.Equal(got, trimActs(names...)[:1]) {
				t.Errorf("P8: the first Remove failed: %#v", got)
			}
		}
		a.Trim()
		if got := actsBut(t, a, 1); !slices.Equal(got, trimActs(names...)[:2]) {
			t.Errorf("P8: the second act failed: %#v", got)
		}
	}
	refused(t, "P8: nothing is old any more", a, a.Trim, api.ErrIdle)
}

// The checkpoint under way is not old, though the manifest names another one.
func TestP8ACheckpointUnderWay(t *testing.T) {
	a := logged(t)
	mustCheckpoint(t, a, 1, 1, map[int]int{1: 1})
	mustSubmit(t, a, put(2, 2))
	mustFlush(t, a)
	for k, job := range checkpointJobs(2, 2, map[int]int{1: 1, 2: 2}) {
		mustJob(t, a, k)
		if got := acts(t, a); !slices.Equal(got, job) {
			t.Errorf("P7: job %d: %#v, want %#v", k, got, job)
		}
		if k < 8 {
			refused(t, "P8: nothing is old", a, a.Trim, api.ErrIdle)
		}
	}
	mustTrim(t, a, "log.1", "ckpt.1")
}

// Trim in the midst of a checkpoint: it goes on as if nothing had been.
func TestP8AmidstACheckpoint(t *testing.T) {
	for place := 1; place <= 8; place++ {
		for _, fails := range []bool{false, true} {
			a := mustOpen(t, aged()...)
			for k, job := range checkpointJobs(8, 14, map[int]int{1: 1}) {
				if k == place {
					view := a.Look()
					if view.Pages != k-1 {
						t.Errorf("P9: ahead of job %d: %+v", k, view)
					}
					a.Trim()
					fail := -1
					if fails {
						fail = 3
					}
					actsBut(t, a, fail)
					mustLook(t, "behind Trim", a, view)
				}
				mustJob(t, a, k)
				if got := acts(t, a); !slices.Equal(got, job) {
					t.Errorf("P7: job %d: %#v, want %#v", k, got, job)
				}
			}
			if fails {
				mustTrim(t, a, "log.12", "log.13", "ckpt.1", "ckpt.7", "ckpt.9", "ckpt.10", "ckpt.999999999")
			} else {
				mustTrim(t, a, "log.12", "log.13", "ckpt.7")
			}
		}
	}
}

// A file that had the name of a checkpoint ahead of its Start is old ahead of it, and behind its failure; not in between.
func TestP8TheSameName(t *testing.T) {
	disk := []api.File{segmentFile(1, batchFrame(1, put(1, 1))), {Name: "ckpt.1", Data: "torn"}, {Name: "ckpt.2"}}
	mustTrim(t, mustOpen(t, disk...), "ckpt.1", "ckpt.2")
	for _, fail := range []int{0, 1} { // in the Start, or in the Page
		a := mustOpen(t, disk...)
		mustJob(t, a, 0)
		if fail == 1 {
			acts(t, a)
			mustTrim(t, a, "ckpt.2")
			mustJob(t, a, 1)
		}
		actsBut(t, a, 0)
		if fail == 1 {
			mustTrim(t, a, "ckpt.1")
		} else {
			mustTrim(t, a, "ckpt.1", "ckpt.2")
		}
		refused(t, "P8: nothing is old any more", a, a.Trim, api.ErrIdle)
	}
	a := mustOpen(t, disk...)
	mustCheckpoint(t, a, 1, 2, map[int]int{1: 1})
	mustTrim(t, a, "log.1", "ckpt.2")
}

// A file that was removed and is created again is there again.
func TestP8CreatedAgain(t *testing.T) {
	a := logged(t)
	for range 3 {
		mustJob(t, a, 0)
		acts(t, a)
		mustJob(t, a, 1)
		actsBut(t, a, 0)
		mustTrim(t, a, "ckpt.1")
		refused(t, "P8: nothing is old any more", a, a.Trim, api.ErrIdle)
	}
	mustCheckpoint(t, a, 1, 1, map[int]int{1: 1})
	refused(t, "P8: nothing is old", a, a.Trim, api.ErrIdle)
}

// Every segment ahead of the manifest's goes, in the order of the numbers.
func TestP8ManySegments(t *testing.T) {
	a := mustOpen(t, segmentFile(7, ""))
	for range 5 {
		fill(t, a, 1001)
	}
	b := a.Look().Last
	mustCheckpoint(t, a, b, 12, nil)
	mustTrim(t, a, "log.7", "log.8", "log.9", "log.10", "log.11")
	mustSubmit(t, a, put(1, 1))
	mustFlush(t, a)
	mustCheckpoint(t, a, b+1, 13, map[int]int{1: 1})
	mustTrim(t, a, "log.12", "ckpt."+strconv.Itoa(b))
}

func TestP2TrimsAreApart(t *testing.T) {
	disk := aged()
	a, b := mustOpen(t, disk...), mustOpen(t, disk...)
	clear(disk)
	mustTrim(t, a, agedNames()...)
	mustTrim(t, b, agedNames()...)
}

// A checkpoint that was given up has its place between those that stood there.
func TestP8AmongOthers(t *testing.T) {
	disk := []api.File{checkpointFile(20, nil), segmentFile(1, batchFrame(1, put(1, 1))+batchFrame(2, put(1, 2))), {Name: "ckpt.1"}, {Name: "ckpt.10"}}
	a := mustOpen(t, disk...)
	mustJob(t, a, 0)
	acts(t, a)
	mustJob(t, a, 1)
	actsBut(t, a, 0)
	mustTrim(t, a, "ckpt.1", "ckpt.2", "ckpt.10", "ckpt.20")
}
