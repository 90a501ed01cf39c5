package annal

import (
	"annal/api"
	"annal/names"
	"annal/table"
	"annal/wire"
)

// checkpoint is one that is under way.
type checkpoint struct {
	manifest wire.Manifest // the one that will name it
	table    table.Table   // as it was behind its batch: the annal's own goes on
	pages    int           // how many were appended
}

// Start begins a checkpoint (P7).
func (a *Annal) Start() api.Errno {
	if e := a.refusal(); e != api.OK {
		return e
	}
	if a.underWay != nil {
		return api.ErrBusy
	}
	if a.last == a.manifest.Checkpoint || len(a.waiting) > 0 {
		return api.ErrIdle
	}
	manifest := wire.Manifest{Checkpoint: a.last, Segment: a.firstSegment()}
	if manifest.Segment > api.MaxNumber {
		return api.ErrMany
	}
	a.underWay = &checkpoint{manifest: manifest, table: a.table}
	a.job = a.startSteps(a.last)
	return api.OK
}

// firstSegment is where the log behind the last batch begins: no later batch stands in an earlier one.
func (a *Annal) firstSegment() int {
	if a.segment == 0 {
		return a.nextSegment
	}
	return a.segment
}

// Page goes on with it (P7).
func (a *Annal) Page() api.Errno {
	if e := a.refusal(); e != api.OK {
		return e
	}
	if a.underWay == nil {
		return api.ErrIdle
	}
	c := a.underWay
	a.job = a.pageSteps(c)
	if c.pages == api.Pages-1 {
		a.job = append(a.job, a.endSteps(c.manifest.Checkpoint)...)
		a.job = append(a.job, a.manifestSteps(c.manifest)...)
	}
	return api.OK
}

func (a *Annal) startSteps(batch int) []step {
	create := api.Act{Kind: api.Create, Name: names.Checkpoint(batch)}
	return []step{{act: create, done: func() { a.checkpoints = with(a.checkpoints, batch) }, failed: a.giveUp}}
}

func (a *Annal) pageSteps(c *checkpoint) []step {
	page := api.Act{Kind: api.Append, Name: names.Checkpoint(c.manifest.Checkpoint), Data: wire.PageFrame(&c.table, c.pages)}
	return []step{{act: page, done: func() { c.pages++ }, failed: a.giveUp}}
}

func (a *Annal) endSteps(batch int) []step {
	name := names.Checkpoint(batch)
	return []step{
		{act: api.Act{Kind: api.Append, Name: name, Data: wire.EndFrame(batch)}, failed: a.giveUp},
		{act: api.Act{Kind: api.Sync, Name: name}, failed: a.giveUp},
		{act: api.Act{Kind: api.SyncDir}, failed: a.giveUp},
	}
}

func (a *Annal) manifestSteps(manifest wire.Manifest) []step {
	const name = names.NewManifest
	return []step{
		{act: api.Act{Kind: api.Create, Name: name}, failed: a.giveUp},
		{act: api.Act{Kind: api.Append, Name: name, Data: manifest.Bytes()}, failed: a.giveUp},
		{act: api.Act{Kind: api.Sync, Name: name}, failed: a.giveUp},
		{act: api.Act{Kind: api.Rename, Name: name, To: names.Manifest}, failed: a.loseManifest},
		{act: api.Act{Kind: api.SyncDir}, done: func() { a.goOnBehind(manifest) }, failed: a.loseManifest},
	}
}

// goOnBehind a checkpoint: the manifest names it from now on.
func (a *Annal) goOnBehind(manifest wire.Manifest) {
	a.underWay = nil
	a.manifest = manifest
	a.segment, a.segmentSize = 0, 0
	a.nextSegment = max(a.nextSegment, manifest.Segment+1)
}

func (a *Annal) giveUp() {
	a.underWay = nil
}

// loseManifest: from here on it might be this one or the one ahead of it, and what is old hangs on that.
func (a *Annal) loseManifest() {
	a.giveUp()
	a.onlyRead()
}

// pages of the checkpoint under way, as Look tells them.
func (a *Annal) pages() int {
	if a.underWay == nil {
		return -1
	}
	return a.underWay.pages
}
