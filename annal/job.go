package annal

import "annal/api"

// step is an act of a job, and what comes of it in the annal.
type step struct {
	act    api.Act
	done   func() // nil: nothing
	failed func() // likewise
}

// Act tells what is to be done now (P4).
func (a *Annal) Act() (api.Act, bool) {
	if !a.hasJob() {
		return api.Act{}, false
	}
	return a.job[0].act, true
}

// Done tells that it was done, or failed (P4).
func (a *Annal) Done(ok bool) api.Errno {
	if !a.hasJob() {
		return api.ErrIdle
	}
	now := a.job[0]
	a.job = a.job[1:]
	if !ok || !a.hasJob() {
		a.job = nil // else the acts that are behind it would be kept
	}
	now.tell(ok)
	return api.OK
}

func (s step) tell(ok bool) {
	told := s.failed
	if ok {
		told = s.done
	}
	if told != nil {
		told()
	}
}

func (a *Annal) hasJob() bool {
	return len(a.job) > 0
}

// refusal is what stands in the way of every new job (P5).
func (a *Annal) refusal() api.Errno {
	if a.hasJob() {
		return api.ErrBusy
	}
	if a.reads {
		return api.ErrRead
	}
	return api.OK
}

func (a *Annal) onlyRead() {
	a.reads = true
}
