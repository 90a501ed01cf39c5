// Package names: how the files of an annal are called.
package names

import (
	"strconv"
	"strings"

	"annal/api"
)

const (
	Manifest    = "manifest"
	NewManifest = "manifest.new" // the manifest, until it takes the place of the one ahead of it

	checkpointStart = "ckpt."
	segmentStart    = "log."
)

// Checkpoint is the name of the checkpoint of a batch.
func Checkpoint(batch int) string {
	return checkpointStart + strconv.Itoa(batch)
}

// Segment is the name of a segment.
func Segment(number int) string {
	return segmentStart + strconv.Itoa(number)
}

// CheckpointNumber tells the batch of the checkpoint of that name, and whether it is one.
func CheckpointNumber(name string) (int, bool) {
	return numberBehind(checkpointStart, name)
}

// SegmentNumber tells the number of the segment of that name, and whether it is one.
func SegmentNumber(name string) (int, bool) {
	return numberBehind(segmentStart, name)
}

func numberBehind(start, name string) (int, bool) {
	digits, is := strings.CutPrefix(name, start)
	if !is {
		return 0, false
	}
	number, err := strconv.Atoi(digits)
	if err != nil || number < 1 || number > api.MaxNumber {
		return 0, false
	}
	// Atoi takes signs and noughts ahead, which no file's name has.
	if strconv.Itoa(number) != digits {
		return 0, false
	}
	return number, true
}
