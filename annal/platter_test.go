package annal_test

import (
	"maps"
	"slices"
	"testing"

	"annal/api"
)

// platter is a disk that remembers what a failure of the computer may take away.
type platter struct {
	// The names behind the last SyncDir, and behind each act on names since.
	stages []map[string]*file
}

type file struct {
	data   string
	synced int // how many bytes are safe
}

func newPlatter(files ...api.File) *platter {
	names := map[string]*file{}
	for _, f := range files {
		names[f.Name] = &file{data: f.Data, synced: len(f.Data)}
	}
	return &platter{stages: []map[string]*file{names}}
}

func (p *platter) names() map[string]*file { return p.stages[len(p.stages)-1] }

func (p *platter) do(t *testing.T, x api.Act) {
	t.Helper()
	f := p.names()[x.Name]
	if f == nil && x.Kind != api.Create && x.Kind != api.SyncDir {
		t.Fatalf("there is no file for %#v", x)
	}
	switch x.Kind {
	case api.Create:
		p.renamed()[x.Name] = &file{}
	case api.Append:
		f.data += x.Data
	case api.Sync:
		f.synced = len(f.data)
	case api.Rename:
		names := p.renamed()
		names[x.To] = f
		delete(names, x.Name)
	case api.Remove:
		delete(p.renamed(), x.Name)
	case api.SyncDir:
		p.stages = p.stages[len(p.stages)-1:]
	default:
		t.Fatalf("what act is this: %#v", x)
	}
}

// renamed: a new stage, in which an act on names is to be done.
func (p *platter) renamed() map[string]*file {
	p.stages = append(p.stages, maps.Clone(p.names()))
	return p.names()
}

// left is what stands there behind a failure: the names of a stage, and of what was not synced what keep leaves of it.
func (p *platter) left(stage int, keep func(name, unsynced string) string) []api.File {
	var files []api.File
	for _, name := range slices.Sorted(maps.Keys(p.stages[stage])) {
		f := p.stages[stage][name]
		files = append(files, api.File{Name: name, Data: f.data[:f.synced] + keep(name, f.data[f.synced:])})
	}
	return files
}

func keepAll(_, unsynced string) string { return unsynced }

// changed: the byte at a place is another one.
func changed(data string, at int, by byte) string {
	b := []byte(data)
	b[at] ^= by
	return string(b)
}
