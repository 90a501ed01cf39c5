package annal_test

import (
	"maps"
	"math/rand/v2"
	"slices"
	"strings"
	"testing"

	"annal/annal"
	"annal/api"
)

// play is an annal on a platter, with an account of what a failure of the computer may leave of it.
type play struct {
	a      *annal.Annal
	disk   *platter
	tables []map[int]int // behind each batch
	acts   int           // how many were told
	fails  int           // the place of the one that fails (-1: none)
	part   int           // of two: how much of it is done
	crash  func(t *testing.T, p *play)
}

func (p *play) submit(t *testing.T, batch [][]api.Op) {
	t.Helper()
	if _, e := p.a.Submit(batch); e == api.OK {
		p.tables = append(p.tables, tableOf(t, p.a))
	}
}

// job does what a call asks for; the computer may fail ahead of each act, and behind the last one.
func (p *play) job(t *testing.T, call func() api.Errno) {
	t.Helper()
	call() // where it is refused there is nothing to be done
	for x, is := p.a.Act(); is; x, is = p.a.Act() {
		p.crash(t, p)
		ok := p.acts != p.fails
		if ok {
			p.disk.do(t, x)
		} else {
			p.half(t, x)
		}
		p.a.Done(ok)
		p.acts++
	}
	p.crash(t, p)
}

// half: an act that failed was done in part. (A file whose Remove failed is still there.)
func (p *play) half(t *testing.T, x api.Act) {
	t.Helper()
	switch {
	case x.Kind == api.Append:
		x.Data = x.Data[:len(x.Data)*p.part/2]
		p.disk.do(t, x)
	case x.Kind == api.Create || x.Kind == api.Rename:
		if p.part == 2 {
			p.disk.do(t, x)
		}
	}
}

// run: three checkpoints, the second one in the midst of batches and of a Trim, the third one without a segment at its Start.
func (p *play) run(t *testing.T) {
	t.Helper()
	for n := range 3 {
		p.submit(t, put(n, n))
		p.submit(t, [][]api.Op{{{Kind: api.Add, K: 9 + n, A: -n}}, {{Kind: api.Need, K: 63}}})
		p.job(t, p.a.Flush)
	}
	p.checkpoint(t, func(int) {})
	full := slices.Repeat([][]api.Op{slices.Repeat([]api.Op{{Kind: api.Add, K: 40, A: 3}}, api.MaxOps)}, api.MaxTxns)
	p.submit(t, full)
	p.job(t, p.a.Flush)
	p.submit(t, full)
	p.job(t, p.a.Flush)
	p.checkpoint(t, func(k int) {
		// One key is of a page that is written, the other of one that is not yet.
		p.submit(t, [][]api.Op{{{Kind: api.Sum, K: 8 * k, A: 0, B: 63}}, {{Kind: api.Add, K: 63 - k, A: k}}})
		if k%2 == 0 {
			p.job(t, p.a.Flush)
		}
		if k == 5 {
			p.job(t, p.a.Trim)
		}
	})
	p.job(t, p.a.Flush)
	p.job(t, p.a.Trim)
	p.checkpoint(t, func(int) {})
	p.submit(t, put(1, 1))
	p.job(t, p.a.Flush)
	p.job(t, p.a.Trim)
}

func (p *play) checkpoint(t *testing.T, meanwhile func(page int)) {
	t.Helper()
	p.job(t, p.a.Start)
	for k := range api.Pages {
		p.job(t, p.a.Page)
		if k < api.Pages-1 {
			meanwhile(k)
		}
	}
}

// mustBeSafe: what is left can be opened, and tells of all batches up to one that is no earlier than the last acknowledged one.
func (p *play) mustBeSafe(t *testing.T, left []api.File) *annal.Annal {
	t.Helper()
	a, e := annal.Open(left)
	if e != api.OK {
		t.Fatalf("P11: behind %d acts: Open: %d; %+v; %q", p.acts, e, p.a.Look(), left)
	}
	view, ahead := a.Look(), p.a.Look()
	if view.Last < ahead.Acked || view.Last > ahead.Last {
		t.Fatalf("P11: behind %d acts: %+v is left of %+v", p.acts, view, ahead)
	}
	if got := tableOf(t, a); !maps.Equal(got, p.tables[view.Last]) {
		t.Fatalf("P11: behind %d acts: %+v: %v, want %v", p.acts, view, got, p.tables[view.Last])
	}
	return a
}

// everyCrash: every stage of the names, every first part of what was not synced of a file, and every byte of it another one.
func everyCrash(t *testing.T, p *play) {
	t.Helper()
	for stage := range p.disk.stages {
		p.mustBeSafe(t, p.disk.left(stage, keepAll))
		p.mustBeSafe(t, p.disk.left(stage, func(string, string) string { return "" }))
		for name, f := range p.disk.stages[stage] {
			unsynced := f.data[f.synced:]
			for at := range unsynced {
				for _, instead := range []string{unsynced[:at], changed(unsynced, at, 1), changed(unsynced, at, 128), changed(unsynced, at, 255)} {
					p.mustBeSafe(t, p.disk.left(stage, func(n, rest string) string {
						if n == name {
							return instead
						}
						return rest
					}))
				}
			}
		}
	}
}

// someCrash: likewise, a few at random, of all files at once.
func someCrash(random *rand.Rand) func(t *testing.T, p *play) {
	return func(t *testing.T, p *play) {
		t.Helper()
		for stage := range p.disk.stages {
			p.mustBeSafe(t, p.disk.left(stage, torn(random)))
		}
	}
}

// torn: a first part, of which one byte may be another.
func torn(random *rand.Rand) func(name, unsynced string) string {
	return func(_, unsynced string) string {
		part := unsynced[:random.IntN(len(unsynced)+1)]
		if random.IntN(3) == 0 {
			part = unsynced
		}
		if part != "" && random.IntN(3) == 0 {
			part = changed(part, random.IntN(len(part)), byte(1+random.IntN(255)))
		}
		return part
	}
}

func newPlay(t *testing.T, fails, part int, crash func(*testing.T, *play)) *play {
	return &play{a: mustOpen(t), disk: newPlatter(), tables: []map[int]int{{}}, fails: fails, part: part, crash: crash}
}

func TestP11BehindEachAct(t *testing.T) {
	p := newPlay(t, -1, 0, everyCrash)
	p.run(t)
	v := p.a.Look()
	if v.Base != 15 || v.Last != 16 || v.Acked != 16 || p.acts < 80 {
		t.Errorf("the acts tell too little: %d; %+v", p.acts, v)
	}
	if names := slices.Sorted(maps.Keys(p.disk.names())); !slices.Equal(names, []string{"ckpt.15", "log.5", "manifest"}) {
		t.Errorf("P8: %v is left", names)
	}
}

// One of the acts fails, each in turn, done not at all, in part or as a whole; the annal goes on as it may, and the computer fails behind each act.
func TestP11ActsThatFail(t *testing.T) {
	whole := newPlay(t, -1, 0, func(*testing.T, *play) {})
	whole.run(t)
	random := rand.New(rand.NewPCG(31, 32))
	for fails := range whole.acts {
		for part := range 3 {
			p := newPlay(t, fails, part, someCrash(random))
			p.run(t)
			if p.acts <= fails {
				t.Errorf("act %d did not fail: %d acts", fails, p.acts)
			}
		}
	}
}

// The computer fails, and what was left is gone on with; it fails again.
func TestP11AgainAndAgain(t *testing.T) {
	random := rand.New(rand.NewPCG(33, 34))
	for range 40 {
		p := newPlay(t, -1, 0, func(*testing.T, *play) {})
		for range 12 {
			p.acts, p.fails, p.part = 0, random.IntN(100), random.IntN(3)
			until := random.IntN(60)
			var left []api.File
			p.crash = func(t *testing.T, p *play) {
				if p.acts == until {
					left = p.disk.left(random.IntN(len(p.disk.stages)), torn(random))
					p.crash = func(*testing.T, *play) {}
					p.mustBeSafe(t, left)
				}
			}
			p.run(t)
			if left == nil {
				left = p.disk.left(random.IntN(len(p.disk.stages)), torn(random))
			}
			p.reopen(t, left)
		}
	}
}

// reopen: the tables of batches that are not read back are forgotten. (Those behind the failure went another way.)
func (p *play) reopen(t *testing.T, left []api.File) {
	t.Helper()
	p.a, p.disk = mustOpen(t, left...), newPlatter(left...)
	last := p.a.Look().Last
	if last >= len(p.tables) || !maps.Equal(tableOf(t, p.a), p.tables[last]) {
		t.Fatalf("P11: %+v: %v", p.a.Look(), tableOf(t, p.a))
	}
	p.tables = p.tables[:last+1]
}

// sameAgain: two annals of one disk tell the same, now and of all that is done with them.
func sameAgain(t *testing.T, a, b *annal.Annal) {
	t.Helper()
	told := func(x *annal.Annal) []any {
		var list []any
		tell := func(what ...any) { list = append(list, what...) }
		for k := range api.Keys {
			v, has, e := x.Get(k)
			tell(v, has, e)
		}
		job := func(e api.Errno) {
			tell(e, x.Look())
			for act, is := x.Act(); is; act, is = x.Act() {
				tell(act, x.Done(true), x.Look())
			}
		}
		tell(x.Look())
		job(x.Trim())
		job(x.Start())
		for range 9 {
			job(x.Page())
		}
		_, e := x.Submit(put(1, 1))
		tell(e)
		job(x.Flush())
		job(x.Trim())
		return list
	}
	if one, other := told(a), told(b); !slices.Equal(one, other) {
		t.Errorf("P12: %#v; again: %#v", one, other)
	}
}

func TestP12OpeningAgain(t *testing.T) {
	random := rand.New(rand.NewPCG(35, 36))
	disks := 0
	p := newPlay(t, -1, 0, func(t *testing.T, p *play) {
		for stage := range p.disk.stages {
			left := p.disk.left(stage, torn(random))
			ahead := slices.Clone(left)
			one := mustOpen(t, left...)
			if !slices.Equal(left, ahead) {
				t.Fatalf("P2: Open wrote into its argument")
			}
			other := slices.Clone(left)
			slices.Reverse(other)
			for _, disk := range [][]api.File{left, other} {
				mustOpen(t, disk...)
				sameAgain(t, one, mustOpen(t, disk...))
				one = mustOpen(t, left...)
			}
			disks++
		}
	})
	p.run(t)
	if disks < 80 {
		t.Errorf("the disks tell too little: %d", disks)
	}
}

// What is opened and not gone on with, however often, leaves the disk as it is: the torn end of a segment stands in no one's way.
func TestP12ATornEnd(t *testing.T) {
	disk := storage{"log.1": batchFrame(1, put(1, 1)) + batchFrame(2, put(2, 2))[:9]}
	for last := 1; last <= 5; last++ {
		for range 3 {
			a := mustOpen(t, disk.files()...)
			mustLook(t, "opened again", a, api.View{Last: last, Acked: last, Pages: -1})
		}
		a := mustOpen(t, disk.files()...)
		mustSubmit(t, a, put(2, last))
		list := mustFlush(t, a)
		if got, want := list, append(createActs(last+1), writeActs(last+1, batchFrame(last+1, put(2, last)))...); !slices.Equal(got, want) {
			t.Fatalf("P6: %#v, want %#v", got, want)
		}
		do(t, disk, list)
		disk["log."+string(rune('1'+last))] += strings.Repeat("x", last)
	}
}
