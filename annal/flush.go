package annal

import (
	"slices"
	"strings"

	"annal/api"
	"annal/names"
)

// Flush writes the log (P6).
func (a *Annal) Flush() api.Errno {
	if e := a.refusal(); e != api.OK {
		return e
	}
	if len(a.waiting) == 0 {
		return api.ErrIdle
	}
	if !a.needsSegment() {
		a.job = a.writeSteps(a.segment)
		return api.OK
	}
	if a.nextSegment > api.MaxNumber {
		return api.ErrMany
	}
	a.job = append(a.createSteps(a.nextSegment), a.writeSteps(a.nextSegment)...)
	return api.OK
}

func (a *Annal) needsSegment() bool {
	return a.segment == 0 || a.segmentSize > api.MaxSegment
}

func (a *Annal) createSteps(segment int) []step {
	return []step{
		{act: api.Act{Kind: api.Create, Name: names.Segment(segment)}, done: func() { a.segments = with(a.segments, segment) }, failed: a.onlyRead},
		// Only behind SyncDir: a crash ahead of it may take the file away, and what would be written to it.
		{act: api.Act{Kind: api.SyncDir}, done: func() { a.goOnIn(segment) }, failed: a.onlyRead},
	}
}

// writeSteps are for the batches that wait now: those that are submitted until they are done are left to another Flush.
func (a *Annal) writeSteps(segment int) []step {
	name, count, data := names.Segment(segment), len(a.waiting), strings.Join(a.waiting, "")
	return []step{
		{act: api.Act{Kind: api.Append, Name: name, Data: data}, done: func() { a.segmentSize += len(data) }, failed: a.onlyRead},
		{act: api.Act{Kind: api.Sync, Name: name}, done: func() { a.acknowledge(count) }, failed: a.onlyRead},
	}
}

func (a *Annal) goOnIn(segment int) {
	a.segment, a.segmentSize = segment, 0
	a.nextSegment = segment + 1
}

func (a *Annal) acknowledge(count int) {
	a.waiting = slices.Delete(a.waiting, 0, count)
}
