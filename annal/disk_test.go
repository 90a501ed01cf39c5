package annal_test

import (
	"hash/crc32"
	"math/rand/v2"
	"slices"
	"strconv"
	"strings"
	"testing"

	"annal/annal"
	"annal/api"
)

// What the tests of this folder lay on a disk, written apart from the program's own reading of it.

func little(value, size int) string {
	var b []byte
	for i := range size {
		b = append(b, byte(value>>(8*i)))
	}
	return string(b)
}

func frame(body string) string {
	check := crc32.Checksum([]byte(body), crc32.MakeTable(crc32.Castagnoli))
	return little(len(body), 2) + little(int(check), 4) + body
}

func batchFrame(number int, txns [][]api.Op) string {
	s := little(number, 4) + little(len(txns), 1)
	for _, txn := range txns {
		s += little(len(txn), 1)
		for _, op := range txn {
			s += little(op.Kind, 1) + little(op.K, 1)
			switch op.Kind {
			case api.Put, api.Add, api.Need:
				s += little(op.A, 8)
			case api.Sum:
				s += little(op.A, 1) + little(op.B, 1)
			}
		}
	}
	return frame(s)
}

func manifestFile(b, n int) api.File {
	return api.File{Name: "manifest", Data: frame(little(b, 4) + little(n, 4))}
}

func segmentFile(n int, data string) api.File {
	return api.File{Name: "log." + strconv.Itoa(n), Data: data}
}

func pageFrames(table map[int]int) []string {
	var frames []string
	for page := range api.Pages {
		has, values := 0, ""
		for i := range api.PageKeys {
			if v, ok := table[page*api.PageKeys+i]; ok {
				has |= 1 << i
				values += little(v, 8)
			}
		}
		frames = append(frames, frame(little(has, 1)+values))
	}
	return frames
}

func checkpointFile(b int, table map[int]int) api.File {
	return api.File{Name: "ckpt." + strconv.Itoa(b), Data: strings.Join(pageFrames(table), "") + frame("end"+little(b, 4))}
}

// put: a batch of one transaction Put k v.
func put(k, v int) [][]api.Op { return [][]api.Op{{{Kind: api.Put, K: k, A: v}}} }

func mustOpen(t *testing.T, disk ...api.File) *annal.Annal {
	t.Helper()
	a, e := annal.Open(disk)
	if a == nil || e != api.OK {
		t.Fatalf("Open: %v, %d", a, e)
	}
	return a
}

func tableOf(t *testing.T, a *annal.Annal) map[int]int {
	t.Helper()
	table := map[int]int{}
	for k := range api.Keys {
		v, has, e := a.Get(k)
		if e != api.OK || !has && v != 0 {
			t.Fatalf("P3: Get(%d): %d, %v, %d", k, v, has, e)
		}
		if has {
			table[k] = v
		}
	}
	return table
}

// randomBatch has few keys, so that its operations meet.
func randomBatch(random *rand.Rand) [][]api.Op {
	var batch [][]api.Op
	for range 1 + random.IntN(api.MaxTxns) {
		var txn []api.Op
		for range 1 + random.IntN(3) {
			op := api.Op{Kind: 1 + random.IntN(6), K: random.IntN(8) * 9}
			switch op.Kind {
			case api.Put, api.Add:
				op.A = int(random.Uint64()) >> random.IntN(64)
			case api.Need:
				op.A = random.IntN(3) - 1
			case api.Sum:
				op.A, op.B = random.IntN(64), random.IntN(64)
			}
			txn = append(txn, op)
		}
		batch = append(batch, txn)
	}
	return batch
}

// storage is a disk on which acts are done.
type storage map[string]string

func (s storage) do(t *testing.T, x api.Act) {
	t.Helper()
	_, there := s[x.Name]
	switch x.Kind {
	case api.Create:
		s[x.Name] = ""
	case api.Append:
		s[x.Name] += x.Data
	case api.Rename:
		s[x.To] = s[x.Name]
		delete(s, x.Name)
	case api.Remove:
		delete(s, x.Name)
	case api.SyncDir:
		there = true
	}
	if x.Kind != api.Create && !there {
		t.Fatalf("there is no file for %#v", x)
	}
}

func (s storage) files() []api.File {
	var files []api.File
	for name, data := range s {
		files = append(files, api.File{Name: name, Data: data})
	}
	return files
}

// acts are those of a job, all of which are done.
func acts(t *testing.T, a *annal.Annal) []api.Act {
	t.Helper()
	return actsBut(t, a, -1)
}

// actsBut: the one at the place fail fails.
func actsBut(t *testing.T, a *annal.Annal, fail int) []api.Act {
	t.Helper()
	var list []api.Act
	for {
		x, is := a.Act()
		if !is {
			return list
		}
		list = append(list, x)
		if e := a.Done(len(list) != fail+1); e != api.OK {
			t.Fatalf("P4: Done: %d", e)
		}
	}
}

// createActs, writeActs: the two halves of a Flush's job.
func createActs(segment int) []api.Act {
	return []api.Act{{Kind: api.Create, Name: "log." + strconv.Itoa(segment)}, {Kind: api.SyncDir}}
}

func writeActs(segment int, frames ...string) []api.Act {
	name := "log." + strconv.Itoa(segment)
	return []api.Act{{Kind: api.Append, Name: name, Data: strings.Join(frames, "")}, {Kind: api.Sync, Name: name}}
}

// checkpointJobs: those of a Start and of eight Pages.
func checkpointJobs(b, n int, table map[int]int) [][]api.Act {
	file := "ckpt." + strconv.Itoa(b)
	jobs := [][]api.Act{{{Kind: api.Create, Name: file}}}
	for _, page := range pageFrames(table) {
		jobs = append(jobs, []api.Act{{Kind: api.Append, Name: file, Data: page}})
	}
	jobs[8] = append(jobs[8],
		api.Act{Kind: api.Append, Name: file, Data: frame("end" + little(b, 4))},
		api.Act{Kind: api.Sync, Name: file},
		api.Act{Kind: api.SyncDir},
		api.Act{Kind: api.Create, Name: "manifest.new"},
		api.Act{Kind: api.Append, Name: "manifest.new", Data: manifestFile(b, n).Data},
		api.Act{Kind: api.Sync, Name: "manifest.new"},
		api.Act{Kind: api.Rename, Name: "manifest.new", To: "manifest"},
		api.Act{Kind: api.SyncDir})
	return jobs
}

// trimActs: these files are removed.
func trimActs(names ...string) []api.Act {
	var list []api.Act
	for _, name := range names {
		list = append(list, api.Act{Kind: api.Remove, Name: name})
	}
	return append(list, api.Act{Kind: api.SyncDir})
}

func mustSubmit(t *testing.T, a *annal.Annal, batch [][]api.Op) {
	t.Helper()
	if l, e := a.Submit(batch); len(l) != len(batch) || e != api.OK {
		t.Fatalf("P3: Submit(%v): %v, %d", batch, l, e)
	}
}

// mustFlush: the acts of a Flush that nothing stands in the way of.
func mustFlush(t *testing.T, a *annal.Annal) []api.Act {
	t.Helper()
	if e := a.Flush(); e != api.OK {
		t.Fatalf("P6: Flush: %d", e)
	}
	return acts(t, a)
}

// mustCheckpoint: Start and eight Pages that nothing stands in the way of, with these acts.
func mustCheckpoint(t *testing.T, a *annal.Annal, b, n int, table map[int]int) {
	t.Helper()
	for k, job := range checkpointJobs(b, n, table) {
		mustJob(t, a, k)
		if got := acts(t, a); !slices.Equal(got, job) {
			t.Fatalf("P7: job %d: %#v, want %#v", k, got, job)
		}
	}
}

// mustJob begins the job number k of a checkpoint: that of the Start, or of a Page.
func mustJob(t *testing.T, a *annal.Annal, k int) {
	t.Helper()
	call := a.Page
	if k == 0 {
		call = a.Start
	}
	if e := call(); e != api.OK {
		t.Fatalf("P7: job %d: %d; %+v", k, e, a.Look())
	}
}

func mustTrim(t *testing.T, a *annal.Annal, names ...string) {
	t.Helper()
	if e := a.Trim(); e != api.OK {
		t.Fatalf("P8: Trim: %d", e)
	}
	if got, want := acts(t, a), trimActs(names...); !slices.Equal(got, want) {
		t.Fatalf("P8: Trim: %#v, want %#v", got, want)
	}
}

func mustLook(t *testing.T, what string, a *annal.Annal, want api.View) {
	t.Helper()
	if got := a.Look(); got != want {
		t.Errorf("P9: %s: %+v, want %+v", what, got, want)
	}
}
