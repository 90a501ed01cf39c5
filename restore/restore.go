// Package restore: a table is read back from what stands on a disk.
package restore

import (
	"errors"
	"slices"

	"annal/api"
	"annal/names"
	"annal/table"
	"annal/wire"
)

var (
	ErrTwice   = errors.New("two files have this name")
	ErrMissing = errors.New("there is no such file")
)

// FileError says in which file the fault stands.
type FileError struct {
	Name string
	Err  error
}

func (e *FileError) Error() string { return e.Name + ": " + e.Err.Error() }

func (e *FileError) Unwrap() error { return e.Err }

// State is what a disk tells.
type State struct {
	Table       table.Table
	Manifest    wire.Manifest
	Last        int   // the number of the last batch
	NextSegment int   // the number of the next segment that is created
	Segments    []int // the numbers of those on the disk, in their order
	Checkpoints []int // likewise
}

// Read reads the newest checkpoint and the log behind it.
func Read(disk []api.File) (State, error) {
	places, err := placesByName(disk)
	if err != nil {
		return State{}, err
	}
	manifest, err := readManifest(disk, places)
	if err != nil {
		return State{}, err
	}
	base, err := readCheckpoint(disk, places, manifest.Checkpoint)
	if err != nil {
		return State{}, err
	}
	segments := segmentsOf(disk)
	state := State{
		Table:       base,
		Manifest:    manifest,
		Last:        manifest.Checkpoint,
		NextSegment: nextSegment(segments, manifest.Segment),
		Segments:    numbersOf(segments),
		Checkpoints: checkpointsOf(disk),
	}
	state.replay(from(segments, manifest.Segment))
	return state, nil
}

func placesByName(disk []api.File) (map[string]int, error) {
	places := make(map[string]int, len(disk))
	for i, file := range disk {
		if _, there := places[file.Name]; there {
			return nil, &FileError{Name: file.Name, Err: ErrTwice}
		}
		places[file.Name] = i
	}
	return places, nil
}

func readManifest(disk []api.File, places map[string]int) (wire.Manifest, error) {
	place, there := places[names.Manifest]
	if !there {
		return wire.Manifest{Checkpoint: 0, Segment: 1}, nil
	}
	manifest, err := wire.ReadManifest(disk[place].Data)
	if err != nil {
		return wire.Manifest{}, &FileError{Name: names.Manifest, Err: err}
	}
	return manifest, nil
}

func readCheckpoint(disk []api.File, places map[string]int, batch int) (table.Table, error) {
	if batch == 0 {
		return table.Table{}, nil
	}
	name := names.Checkpoint(batch)
	place, there := places[name]
	if !there {
		return table.Table{}, &FileError{Name: name, Err: ErrMissing}
	}
	t, err := wire.ReadCheckpoint(disk[place].Data, batch)
	if err != nil {
		return table.Table{}, &FileError{Name: name, Err: err}
	}
	return t, nil
}

// checkpointsOf lists all checkpoints on a disk, those too that are not as they must be: no one may need them, but they are there.
func checkpointsOf(disk []api.File) []int {
	var checkpoints []int
	for _, file := range disk {
		if batch, is := names.CheckpointNumber(file.Name); is {
			checkpoints = append(checkpoints, batch)
		}
	}
	slices.Sort(checkpoints)
	return checkpoints
}
