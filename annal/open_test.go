package annal_test

import (
	"maps"
	"math/rand/v2"
	"slices"
	"strings"
	"testing"

	"annal/annal"
	"annal/api"
)

func TestP10Table(t *testing.T) {
	one, two, three := batchFrame(1, put(1, 1)), batchFrame(2, put(2, 2)), batchFrame(3, put(3, 3))
	all := one + two + three
	ckpt := checkpointFile(2, map[int]int{0: least, 7: most, 8: 0, 63: -1})
	base := map[int]int{0: least, 7: most, 8: 0, 63: -1}
	baseAnd3 := map[int]int{0: least, 7: most, 8: 0, 63: -1, 3: 3}
	none, upTo1, upTo2, upTo3 := map[int]int{}, map[int]int{1: 1}, map[int]int{1: 1, 2: 2}, map[int]int{1: 1, 2: 2, 3: 3}
	for _, c := range []struct {
		name string
		disk []api.File
		want map[int]int
	}{
		{"an empty disk", nil, none},
		{"files with other names", []api.File{{Name: "manifest.new", Data: "x"}, {Name: "", Data: all}, {Name: "log", Data: all}, {Name: "log.", Data: all}, {Name: "log.0", Data: all}, {Name: "log.01", Data: all}, {Name: "log.+1", Data: all}, {Name: "log.-1", Data: all}, {Name: "log.1 ", Data: all}, {Name: "log.1000000000", Data: all}, {Name: "LOG.1", Data: all}, {Name: "Manifest", Data: "x"}, {Name: "ckpt.3", Data: "x"}}, none},
		{"one segment", []api.File{segmentFile(1, all)}, upTo3},
		{"the last segment that may be", []api.File{segmentFile(api.MaxNumber, all)}, upTo3},
		{"numbers, not texts, give the order", []api.File{segmentFile(10, three), segmentFile(9, two), segmentFile(2, one)}, upTo3},
		{"segments need not be next to each other", []api.File{segmentFile(4, one), segmentFile(700, two)}, upTo2},
		{"an empty segment between", []api.File{segmentFile(1, one), segmentFile(2, ""), segmentFile(3, two)}, upTo2},
		{"a torn end, gone on with in the next segment", []api.File{segmentFile(1, one+two[:len(two)-1]), segmentFile(2, two+three)}, upTo3},
		{"behind a wrong byte nothing is read", []api.File{segmentFile(1, one+"\x00"+two)}, upTo1},
		{"behind a wrong check nothing is read", []api.File{segmentFile(1, one+two[:len(two)-1]+"\x01"+three)}, upTo1},
		{"behind a wrong body nothing is read", []api.File{segmentFile(1, one+frame("")+two)}, upTo1},
		{"nothing may stand behind a batch in its frame", []api.File{segmentFile(1, one+frame(two[6:]+"\x00")+two)}, upTo1},
		{"behind a batch too late nothing is read", []api.File{segmentFile(1, one+three+two)}, upTo1},
		{"but the next segment is", []api.File{segmentFile(1, one+three+two), segmentFile(2, two+three)}, upTo3},
		{"a batch once more is passed by", []api.File{segmentFile(1, one+batchFrame(1, put(1, 9))+two), segmentFile(2, batchFrame(1, put(5, 5))+batchFrame(2, put(2, 9))+three)}, upTo3},
		{"number 0 is no batch", []api.File{segmentFile(1, one+batchFrame(0, put(9, 9))+two)}, upTo1},
		{"the batch 2 first", []api.File{segmentFile(1, two), segmentFile(2, one)}, upTo1},
		{"a manifest without a checkpoint", []api.File{manifestFile(0, 1), segmentFile(1, all)}, upTo3},
		{"a manifest whose log is not there", []api.File{manifestFile(0, 2), segmentFile(1, all)}, none},
		{"a checkpoint that no manifest names", []api.File{ckpt, segmentFile(1, one)}, upTo1},
		{"a checkpoint alone", []api.File{manifestFile(2, 1), ckpt}, base},
		{"a checkpoint and a log with earlier batches", []api.File{manifestFile(2, 1), ckpt, segmentFile(1, all)}, baseAnd3},
		{"a checkpoint and a log behind it", []api.File{manifestFile(2, 5), ckpt, segmentFile(5, three)}, baseAnd3},
		{"a checkpoint and an older log", []api.File{manifestFile(2, 5), ckpt, segmentFile(4, three)}, base},
		{"a checkpoint and a log too late", []api.File{manifestFile(2, 5), ckpt, segmentFile(5, batchFrame(4, put(4, 4))+three)}, base},
		{"another checkpoint that is torn", []api.File{manifestFile(2, 1), ckpt, {Name: "ckpt.3", Data: "x"}, segmentFile(1, all)}, baseAnd3},
		{"no batch behind MaxNumber", []api.File{manifestFile(api.MaxNumber, 1), checkpointFile(api.MaxNumber, upTo1), segmentFile(1, batchFrame(api.MaxNumber+1, put(2, 2)))}, upTo1},
	} {
		for range 3 {
			if got := tableOf(t, mustOpen(t, c.disk...)); !maps.Equal(got, c.want) {
				t.Errorf("P10: %s: %v, want %v", c.name, got, c.want)
			}
			slices.Reverse(c.disk)
		}
	}
}

func TestP10Refused(t *testing.T) {
	good := manifestFile(0, 1).Data
	ckpt := checkpointFile(2, map[int]int{1: 1})
	named := func(name, data string) api.File { return api.File{Name: name, Data: data} }
	for _, c := range []struct {
		name string
		disk []api.File
		want api.Errno
	}{
		{"two names", []api.File{{Name: "a"}, {Name: "b"}, {Name: "a"}}, api.ErrArg},
		{"two empty names", []api.File{{}, {}}, api.ErrArg},
		{"two names, and a manifest that is none", []api.File{{Name: "manifest"}, {Name: "a"}, {Name: "a"}}, api.ErrArg},
		{"two manifests that are none", []api.File{{Name: "manifest"}, {Name: "manifest"}}, api.ErrArg},
		{"an empty manifest", []api.File{{Name: "manifest"}}, api.ErrDisk},
		{"a manifest cut", []api.File{named("manifest", good[:len(good)-1])}, api.ErrDisk},
		{"a manifest with something behind", []api.File{named("manifest", good+"\x00")}, api.ErrDisk},
		{"a manifest twice in its file", []api.File{named("manifest", good+good)}, api.ErrDisk},
		{"a manifest with a wrong check", []api.File{named("manifest", good[:6]+"\x01"+good[7:])}, api.ErrDisk},
		{"a manifest too short", []api.File{named("manifest", frame(little(0, 4)+little(1, 3)))}, api.ErrDisk},
		{"a manifest too long", []api.File{named("manifest", frame(little(0, 4)+little(1, 5)))}, api.ErrDisk},
		{"n is 0", []api.File{manifestFile(0, 0)}, api.ErrDisk},
		{"n is too great", []api.File{manifestFile(0, api.MaxNumber+1)}, api.ErrDisk},
		{"n is far too great", []api.File{manifestFile(0, 1<<32-1)}, api.ErrDisk},
		{"b is too great", []api.File{manifestFile(api.MaxNumber+1, 1), checkpointFile(api.MaxNumber+1, nil)}, api.ErrDisk},
		{"no checkpoint", []api.File{manifestFile(2, 1), segmentFile(1, batchFrame(1, put(1, 1))+batchFrame(2, put(1, 1)))}, api.ErrDisk},
		{"another checkpoint", []api.File{manifestFile(2, 1), checkpointFile(3, nil)}, api.ErrDisk},
		{"a checkpoint under a name that is none", []api.File{manifestFile(2, 1), named("ckpt.02", ckpt.Data)}, api.ErrDisk},
		{"an empty checkpoint", []api.File{manifestFile(2, 1), named("ckpt.2", "")}, api.ErrDisk},
		{"a checkpoint with something behind", []api.File{manifestFile(2, 1), named("ckpt.2", ckpt.Data+"\x00")}, api.ErrDisk},
		{"a page too long", []api.File{manifestFile(2, 1), named("ckpt.2", frame("\x00\x00")+checkpointFile(2, nil).Data[7:])}, api.ErrDisk},
		{"a page too short", []api.File{manifestFile(2, 1), named("ckpt.2", frame("\x01"+little(1, 7))+checkpointFile(2, nil).Data[7:])}, api.ErrDisk},
		{"a page too many", []api.File{manifestFile(2, 1), named("ckpt.2", frame("\x00")+ckpt.Data)}, api.ErrDisk},
		{"a page too few", []api.File{manifestFile(2, 1), named("ckpt.2", checkpointFile(2, nil).Data[7:])}, api.ErrDisk},
		{"the end of another checkpoint", []api.File{manifestFile(2, 1), named("ckpt.2", checkpointFile(3, nil).Data)}, api.ErrDisk},
	} {
		if a, e := annal.Open(c.disk); a != nil || e != c.want {
			t.Errorf("P10: %s: %d, want %d", c.name, e, c.want)
		}
	}
}

func TestP10EveryByteOfACheckpointCounts(t *testing.T) {
	ckpt := checkpointFile(2, map[int]int{1: 1, 63: -5})
	for at := range len(ckpt.Data) {
		b := []byte(ckpt.Data)
		b[at] ^= 0x10
		for _, data := range []string{ckpt.Data[:at], string(b)} {
			if a, e := annal.Open([]api.File{manifestFile(2, 1), {Name: "ckpt.2", Data: data}}); a != nil || e != api.ErrDisk {
				t.Errorf("P10: byte %d: %d", at, e)
			}
		}
	}
}

// history: batches, their frames, and the table behind each.
type history struct {
	batches [][][]api.Op
	frames  []string
	tables  []map[int]int
}

func randomHistory(t *testing.T, random *rand.Rand, n int) history {
	a := mustOpen(t)
	h := history{tables: []map[int]int{{}}}
	for i := range n {
		batch := randomBatch(random)
		a.Submit(batch)
		h.batches = append(h.batches, batch)
		h.frames = append(h.frames, batchFrame(i+1, batch))
		h.tables = append(h.tables, tableOf(t, a))
	}
	return h
}

func TestP10CutOrChangedAnywhere(t *testing.T) {
	h := randomHistory(t, rand.New(rand.NewPCG(7, 8)), 5)
	log := strings.Join(h.frames, "")
	whole, end := 0, len(h.frames[0])
	for at := range len(log) {
		if at == end {
			whole++
			end += len(h.frames[whole])
		}
		b := []byte(log)
		b[at] ^= 0x04
		for _, data := range []string{log[:at], string(b)} {
			if got := tableOf(t, mustOpen(t, segmentFile(1, data))); !maps.Equal(got, h.tables[whole]) {
				t.Errorf("P10: byte %d: the table is not that behind batch %d", at, whole)
			}
		}
	}
}

// The frames are cut up among segments, each of which begins with some that were there already and ends with a torn one; the table is the same with every checkpoint.
func TestP10ManySegments(t *testing.T) {
	random := rand.New(rand.NewPCG(9, 10))
	for range 100 {
		n := 1 + random.IntN(api.MaxWaiting)
		h := randomHistory(t, random, n)
		var disk []api.File
		segment := 1 + random.IntN(12)
		for i := 0; i < n; {
			first, last := max(0, i-random.IntN(3)), min(n, i+1+random.IntN(3))
			data := strings.Join(h.frames[first:last], "")
			if last < n {
				data += h.frames[last][:random.IntN(len(h.frames[last]))]
			}
			disk = append(disk, segmentFile(segment, data))
			segment += 1 + random.IntN(3)
			i = last
		}
		b := 1 + random.IntN(n)
		disk = append(disk, checkpointFile(b, h.tables[b]))
		for _, manifest := range []api.File{manifestFile(0, 1), manifestFile(b, 1)} {
			l := append(slices.Clone(disk), manifest)
			random.Shuffle(len(l), func(i, j int) { l[i], l[j] = l[j], l[i] })
			if got := tableOf(t, mustOpen(t, l...)); !maps.Equal(got, h.tables[n]) {
				t.Fatalf("P10: %d batches, checkpoint %d: %v, want %v", n, b, got, h.tables[n])
			}
		}
	}
}

// A thousand goroutines are all joined, and their order is not seen.
func TestP10AThousandSegments(t *testing.T) {
	var disk []api.File
	for n := 1000; n >= 1; n-- {
		disk = append(disk, segmentFile(n, batchFrame(n, [][]api.Op{{{Kind: api.Add, K: 1, A: 1}, {Kind: api.Need, K: 1, A: n}, {Kind: api.Put, K: 2, A: n}}})))
	}
	if got := tableOf(t, mustOpen(t, disk...)); !maps.Equal(got, map[int]int{1: 1000, 2: 1000}) {
		t.Errorf("P10: %v", got)
	}
}

func TestP10SubmitGoesOn(t *testing.T) {
	a := mustOpen(t, segmentFile(1, batchFrame(1, put(1, 1))+batchFrame(2, put(1, 2))))
	for n := range api.MaxWaiting {
		if l, e := a.Submit([][]api.Op{{{Kind: api.Add, K: 1, A: 1}}}); !slices.Equal(l, []bool{true}) || e != api.OK {
			t.Fatalf("P10: batches that were read back wait: batch %d: %v, %d", n, l, e)
		}
	}
	if v, _, _ := a.Get(1); v != 2+api.MaxWaiting {
		t.Errorf("P10: key 1 is %d", v)
	}
}

func TestP2ArgumentsOfOpen(t *testing.T) {
	disk := []api.File{segmentFile(2, batchFrame(2, put(2, 2))), segmentFile(1, batchFrame(1, put(1, 1))), manifestFile(0, 1), {Name: "spare", Data: "room"}, {Name: "spare", Data: "room"}}
	ahead := slices.Clone(disk)
	a := mustOpen(t, disk[:3]...)
	if !slices.Equal(disk, ahead) {
		t.Errorf("P2: Open wrote into its argument: %v", disk)
	}
	clear(disk)
	if !maps.Equal(tableOf(t, a), map[int]int{1: 1, 2: 2}) {
		t.Errorf("P2: Open kept its argument: %v", tableOf(t, a))
	}
}

// Disks of pieces that are right, each with bytes changed, cut out or put in: Open answers an annal or an error, never both, and the same again.
func TestP1AnyDisk(t *testing.T) {
	random := rand.New(rand.NewPCG(11, 12))
	names := []string{"manifest", "manifest.new", "log.1", "log.2", "log.999999999", "ckpt.1", "ckpt.2", "log.x", ""}
	h := randomHistory(t, random, 3)
	pieces := append(slices.Clone(h.frames), manifestFile(0, 1).Data, manifestFile(1, 1).Data, manifestFile(2, 2).Data, checkpointFile(1, h.tables[1]).Data, checkpointFile(2, h.tables[2]).Data, frame(strings.Repeat("\xff", 600)), "\xff\xff\xff")
	answers := map[api.Errno]int{}
	for range 20000 {
		var disk []api.File
		for range random.IntN(6) {
			disk = append(disk, api.File{Name: names[random.IntN(len(names))], Data: mangled(random, pieces)})
		}
		a, e := annal.Open(disk)
		b, f := annal.Open(disk)
		answers[e]++
		if e != f || (a == nil) != (e != api.OK) || e != api.OK && e != api.ErrArg && e != api.ErrDisk {
			t.Fatalf("P1: Open(%q): %v, %d; again: %d", disk, a, e, f)
		}
		if a == nil {
			continue
		}
		if !maps.Equal(tableOf(t, a), tableOf(t, b)) {
			t.Fatalf("P2: Open(%q) answers this and that", disk)
		}
		if _, e := a.Submit(put(1, 1)); e != api.OK {
			t.Fatalf("P3: Submit behind Open(%q): %d", disk, e)
		}
	}
	if answers[api.OK] < 500 || answers[api.ErrArg] < 500 || answers[api.ErrDisk] < 500 {
		t.Errorf("the disks tell too little: %v", answers)
	}
}

func mangled(random *rand.Rand, pieces []string) string {
	data := pieces[random.IntN(len(pieces))]
	if random.IntN(2) == 0 {
		data += pieces[random.IntN(len(pieces))]
	}
	switch at := random.IntN(len(data)); random.IntN(6) {
	case 0:
		return data[:at]
	case 1:
		return data[at:]
	case 2:
		return data[:at] + string([]byte{byte(random.Uint32())}) + data[at+1:]
	case 3:
		return data[:at] + "\x00" + data[at:]
	}
	return data
}
