package restore

import (
	"cmp"
	"slices"
	"sync"

	"annal/api"
	"annal/names"
	"annal/wire"
)

type segment struct {
	number int
	data   string
}

// place is where a batch stands in the log: how many stand ahead of it in its segment.
type place struct {
	segment, ahead int
}

// segmentsOf lists the segments on a disk in the order of their numbers.
func segmentsOf(disk []api.File) []segment {
	var segments []segment
	for _, file := range disk {
		if number, is := names.SegmentNumber(file.Name); is {
			segments = append(segments, segment{number: number, data: file.Data})
		}
	}
	slices.SortFunc(segments, func(x, y segment) int { return cmp.Compare(x.number, y.number) })
	return segments
}

func numbersOf(segments []segment) []int {
	var numbers []int
	for _, s := range segments {
		numbers = append(numbers, s.number)
	}
	return numbers
}

// from leaves out the segments below the first one of the log.
func from(segments []segment, first int) []segment {
	for i, s := range segments {
		if s.number >= first {
			return segments[i:]
		}
	}
	return nil
}

// nextSegment is above every segment on the disk, and at least the first one of the log.
func nextSegment(segments []segment, first int) int {
	if len(segments) == 0 {
		return first
	}
	return max(first, segments[len(segments)-1].number+1)
}

// replay does the batches that come next, one behind the other, and passes the earlier ones by.
func (s *State) replay(segments []segment) {
	batches := findBatches(segments)
	for _, seg := range segments {
		for ahead := 0; ; ahead++ {
			batch, there := batches[place{seg.number, ahead}]
			if !there || batch.Number > s.Last+1 {
				break
			}
			if batch.Number == s.Last+1 {
				s.Table.Do(batch.Txns)
				s.Last = batch.Number
			}
		}
	}
}

// findBatches reads each segment by a goroutine of its own, which writes to a list of its own: so no lock is needed.
func findBatches(segments []segment) map[place]wire.Batch {
	found := make([][]wire.Batch, len(segments))
	var readers sync.WaitGroup
	for i, seg := range segments {
		readers.Add(1)
		go func() {
			defer readers.Done()
			found[i] = readSegment(seg.data)
		}()
	}
	readers.Wait()
	batches := make(map[place]wire.Batch)
	for i, seg := range segments {
		for ahead, batch := range found[i] {
			batches[place{seg.number, ahead}] = batch
		}
	}
	return batches
}

// readSegment reads batches up to the first thing that is none: a failure of the computer may have left it there, so it is no error.
func readSegment(data string) []wire.Batch {
	var batches []wire.Batch
	for {
		body, rest, err := wire.Frame(data)
		if err != nil {
			return batches
		}
		batch, err := wire.ReadBatch(body)
		if err != nil {
			return batches
		}
		batches = append(batches, batch)
		data = rest
	}
}
