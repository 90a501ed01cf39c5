package names

import (
	"strconv"
	"testing"

	"annal/api"
)

func TestSegment(t *testing.T) {
	for _, n := range []int{1, 9, 10, 100, api.MaxNumber} {
		name := Segment(n)
		if name != "log."+strconv.Itoa(n) {
			t.Errorf("segment %d: %s", n, name)
		}
		if got, is := SegmentNumber(name); got != n || !is {
			t.Errorf("%s: %d, %v", name, got, is)
		}
	}
}

func TestNoSegment(t *testing.T) {
	for _, name := range []string{"", "log", "log.", "log.0", "log.01", "log.-1", "log.+1", "log.1.", "log. 1", "log.1\n", "log.1_0", "log.0x1", "log.1e1", "log.1000000000", "log.18446744073709551617", "log.\u0661", "log.\xff", "xlog.1", "LOG.1", "ckpt.1"} {
		if n, is := SegmentNumber(name); n != 0 || is {
			t.Errorf("%q is no segment: %d", name, n)
		}
	}
}

func TestCheckpoint(t *testing.T) {
	for n, want := range map[int]string{1: "ckpt.1", 10: "ckpt.10", api.MaxNumber: "ckpt.999999999"} {
		if got := Checkpoint(n); got != want {
			t.Errorf("checkpoint %d: %s", n, got)
		}
		if got, is := CheckpointNumber(want); got != n || !is {
			t.Errorf("%s: %d, %v", want, got, is)
		}
	}
}

func TestNoCheckpoint(t *testing.T) {
	for _, name := range []string{"", "ckpt", "ckpt.", "ckpt.0", "ckpt.01", "ckpt.-1", "ckpt.+1", "ckpt.1.", "ckpt. 1", "ckpt.1000000000", "xckpt.1", "CKPT.1", "log.1", "manifest", "manifest.new"} {
		if n, is := CheckpointNumber(name); n != 0 || is {
			t.Errorf("%q is no checkpoint: %d", name, n)
		}
	}
}
