package restore

import (
	"errors"
	"hash/crc32"
	"reflect"
	"slices"
	"testing"

	"annal/api"
	"annal/wire"
)

func frame(body string) string {
	check := crc32.Checksum([]byte(body), crc32.MakeTable(crc32.Castagnoli))
	return little(len(body), 2) + little(int(check), 4) + body
}

func little(value, size int) string {
	var b []byte
	for i := range size {
		b = append(b, byte(value>>(8*i)))
	}
	return string(b)
}

func manifest(b, n int) api.File {
	return api.File{Name: "manifest", Data: frame(little(b, 4) + little(n, 4))}
}

func TestFaultsAreWrappedByTheirFile(t *testing.T) {
	for k, c := range []struct {
		disk []api.File
		name string
		want error
	}{
		{[]api.File{{Name: "x"}, {Name: "y"}, {Name: "x", Data: "z"}}, "x", ErrTwice},
		{[]api.File{{Name: ""}, {Name: ""}}, "", ErrTwice},
		{[]api.File{{Name: "manifest"}, {Name: "log.1"}, {Name: "log.1"}}, "log.1", ErrTwice},
		{[]api.File{{Name: "manifest", Data: "x"}}, "manifest", wire.ErrShort},
		{[]api.File{{Name: "manifest", Data: frame("")}}, "manifest", wire.ErrManifest},
		{[]api.File{manifest(7, 1)}, "ckpt.7", ErrMissing},
		{[]api.File{manifest(7, 1), {Name: "ckpt.7", Data: frame("")}}, "ckpt.7", wire.ErrPage},
	} {
		state, err := Read(c.disk)
		var fault *FileError
		if !errors.As(err, &fault) || fault.Name != c.name || !errors.Is(err, c.want) || !reflect.DeepEqual(state, State{}) {
			t.Errorf("line %d: %v, want %s: %v", k, err, c.name, c.want)
		}
	}
	if text := (&FileError{Name: "ckpt.7", Err: ErrMissing}).Error(); text != "ckpt.7: there is no such file" {
		t.Errorf("the text of an error: %s", text)
	}
}

func TestNextSegment(t *testing.T) {
	for k, c := range []struct {
		disk []api.File
		next int
	}{
		{nil, 1}, {[]api.File{manifest(0, 1)}, 1}, {[]api.File{manifest(0, 5)}, 5},
		{[]api.File{{Name: "log.1"}}, 2}, {[]api.File{{Name: "log.9"}, {Name: "log.10"}, {Name: "log.2", Data: "x"}}, 11},
		{[]api.File{manifest(0, 5), {Name: "log.3"}}, 5}, {[]api.File{manifest(0, 5), {Name: "log.4"}}, 5}, {[]api.File{manifest(0, 5), {Name: "log.5"}}, 6}, {[]api.File{manifest(0, 5), {Name: "log.8"}}, 9},
		{[]api.File{{Name: "log.999999999"}}, 1000000000}, {[]api.File{manifest(0, api.MaxNumber)}, api.MaxNumber},
		{[]api.File{{Name: "log.0"}, {Name: "log.07"}, {Name: "log.1000000000"}, {Name: "log.3 "}, {Name: "Log.3"}, {Name: "ckpt.3"}}, 1},
	} {
		if state, err := Read(c.disk); err != nil || state.NextSegment != c.next {
			t.Errorf("line %d: %d, %v, want %d", k, state.NextSegment, err, c.next)
		}
	}
}

func TestLast(t *testing.T) {
	del := func(number int) string { return frame(little(number, 4) + "\x01\x01\x02\x05") }
	for k, c := range []struct {
		disk []api.File
		last int
	}{
		{nil, 0}, {[]api.File{{Name: "log.1", Data: del(1) + del(2)}}, 2}, {[]api.File{{Name: "log.3", Data: del(3)}, {Name: "log.2", Data: del(1) + del(2)}}, 3},
		{[]api.File{{Name: "log.1", Data: del(1) + del(3)}, {Name: "log.2", Data: del(2) + del(1) + del(3) + del(5) + del(4)}, {Name: "log.7", Data: del(4)}}, 4},
	} {
		if state, err := Read(c.disk); err != nil || state.Last != c.last {
			t.Errorf("line %d: %d, %v, want %d", k, state.Last, err, c.last)
		}
	}
}

func TestFilesOnTheDisk(t *testing.T) {
	page := frame("\x00")
	checkpoint := page + page + page + page + page + page + page + page + frame("end"+little(9, 4))
	disk := []api.File{{Name: "ckpt.10"}, {Name: "log.10"}, {Name: "ckpt.9", Data: checkpoint}, {Name: "log.2"}, {Name: "ckpt.999999999", Data: "x"}, {Name: "log.9"}, {Name: "log.01"}, {Name: "ckpt.0"}, {Name: "ckpt.1000000000"}, {Name: "ckpt"}, {Name: "manifest.new"}, manifest(9, 3)}
	state, err := Read(disk)
	if err != nil || !slices.Equal(state.Segments, []int{2, 9, 10}) || !slices.Equal(state.Checkpoints, []int{9, 10, 999999999}) || state.Manifest != (wire.Manifest{Checkpoint: 9, Segment: 3}) {
		t.Errorf("%v, %v", state, err)
	}
	state, err = Read(nil)
	if err != nil || len(state.Segments) != 0 || len(state.Checkpoints) != 0 || state.Manifest != (wire.Manifest{Segment: 1}) {
		t.Errorf("an empty disk: %v, %v", state, err)
	}
}
