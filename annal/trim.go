package annal

import (
	"slices"

	"annal/api"
	"annal/names"
)

// Trim removes old files (P8).
func (a *Annal) Trim() api.Errno {
	if e := a.refusal(); e != api.OK {
		return e
	}
	job := append(a.segmentRemovals(), a.checkpointRemovals()...)
	if len(job) == 0 {
		return api.ErrIdle
	}
	a.job = append(job, step{act: api.Act{Kind: api.SyncDir}})
	return api.OK
}

func (a *Annal) segmentRemovals() []step {
	var removals []step
	for _, number := range a.segments {
		if number < a.manifest.Segment {
			remove := api.Act{Kind: api.Remove, Name: names.Segment(number)}
			removals = append(removals, step{act: remove, done: func() { a.segments = without(a.segments, number) }})
		}
	}
	return removals
}

func (a *Annal) checkpointRemovals() []step {
	var removals []step
	for _, batch := range a.checkpoints {
		if !a.wantsCheckpoint(batch) {
			remove := api.Act{Kind: api.Remove, Name: names.Checkpoint(batch)}
			removals = append(removals, step{act: remove, done: func() { a.checkpoints = without(a.checkpoints, batch) }})
		}
	}
	return removals
}

func (a *Annal) wantsCheckpoint(batch int) bool {
	if a.underWay != nil && batch == a.underWay.manifest.Checkpoint {
		return true
	}
	return batch == a.manifest.Checkpoint
}

// with and without: a number in a list that stands in order.
func with(numbers []int, number int) []int {
	place, there := slices.BinarySearch(numbers, number)
	if there {
		return numbers
	}
	return slices.Insert(numbers, place, number)
}

func without(numbers []int, number int) []int {
	return slices.DeleteFunc(numbers, func(other int) bool { return other == number })
}
