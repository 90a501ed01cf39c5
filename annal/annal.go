// Package annal: a table that outlives crashes by a log of what was asked: see DOC.md.
package annal

import (
	"errors"

	"annal/api"
	"annal/restore"
	"annal/table"
	"annal/wire"
)

// Annal is a table and its log.
type Annal struct {
	table       table.Table
	last        int      // the number of the last batch
	waiting     []string // the frames of the batches that wait, which are the last ones
	manifest    wire.Manifest
	underWay    *checkpoint // nil: none
	segment     int         // the number of its segment (0: none)
	segmentSize int         // how many bytes that has
	nextSegment int         // the number of the next segment that is created
	segments    []int       // the numbers of those on the disk, in their order
	checkpoints []int       // likewise
	job         []step      // what is still to be done
	reads       bool        // it can only be read
}

// Open reads an annal back (P10).
func Open(disk []api.File) (*Annal, api.Errno) {
	state, err := restore.Read(disk)
	if err != nil {
		return nil, openErrno(err)
	}
	return &Annal{
		table:       state.Table,
		last:        state.Last,
		manifest:    state.Manifest,
		nextSegment: state.NextSegment,
		segments:    state.Segments,
		checkpoints: state.Checkpoints,
	}, api.OK
}

// openErrno: a name that stands twice is the caller's fault; any other fault stands in a file.
func openErrno(err error) api.Errno {
	var fault *restore.FileError
	if errors.As(err, &fault) && errors.Is(fault.Err, restore.ErrTwice) {
		return api.ErrArg
	}
	return api.ErrDisk
}

// Submit does a batch (P3).
func (a *Annal) Submit(batch [][]api.Op) ([]bool, api.Errno) {
	if a.reads {
		return nil, api.ErrRead
	}
	if !table.IsBatch(batch) {
		return nil, api.ErrBatch
	}
	if len(a.waiting) >= api.MaxWaiting || a.last >= api.MaxNumber {
		return nil, api.ErrMany
	}
	a.last++
	asked := wire.Batch{Number: a.last, Txns: batch}
	a.waiting = append(a.waiting, wire.FrameOf(asked.Bytes()))
	return a.table.Do(batch), api.OK
}

// Get tells a value (P3).
func (a *Annal) Get(key int) (int, bool, api.Errno) {
	if !table.HasKey(key) {
		return 0, false, api.ErrArg
	}
	value, has := a.table.Get(key)
	return value, has, api.OK
}

// Look tells how the annal is (P9).
func (a *Annal) Look() api.View {
	return api.View{
		Last:    a.last,
		Acked:   a.last - len(a.waiting),
		Waiting: len(a.waiting),
		Base:    a.manifest.Checkpoint,
		Segment: a.segment,
		Pages:   a.pages(),
		Job:     a.hasJob(),
		Reads:   a.reads,
	}
}
