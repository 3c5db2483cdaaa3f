// Package flow is what a relay keeps: its sessions, and the keys of what they took.
package flow

import (
	"slices"
	"strings"

	"culvert/api"
)

// Flow is all sessions and keys. The zero Flow took nothing, and nothing waits in it.
type Flow struct {
	lanes [api.MaxSessions]lane
	keys  ledger
}

// Accept lets a record in, and tells the base of its session (P4), and whether anything changed.
func (f *Flow) Accept(x api.Record) (int, bool, api.Errno) {
	if errno := checkRecord(x); errno != api.OK {
		return 0, false, errno
	}
	if x.Epoch < f.lanes[x.Session].epoch {
		return 0, false, api.ErrEpoch
	}
	// The epoch turns in a copy: if an error follows, it has not turned.
	after := *f
	current := &after.lanes[x.Session]
	current.turn(x.Epoch)
	if !current.reaches(x.Number) {
		return 0, false, api.ErrFar
	}
	if current.has(x.Number) {
		return current.base, false, api.OK
	}
	if errno := after.checkRoom(x.Key); errno != api.OK {
		return 0, false, errno
	}
	// The key is cloned, lest a few bytes hold on to a long text of the caller's.
	current.add(waiter{number: x.Number, key: strings.Clone(x.Key), value: x.Value})
	after.drain(x.Session)
	*f = after
	return current.base, true, api.OK
}

// checkRoom says whether one more record, of this key, may be taken or wait.
func (f *Flow) checkRoom(key string) api.Errno {
	names := f.names()
	if len(names) >= api.MaxKeys && !slices.Contains(names, key) {
		return api.ErrMany
	}
	if f.records() >= api.MaxRecords {
		return api.ErrFull
	}
	return api.OK
}

// names are the keys that are there, each once.
func (f *Flow) names() []string {
	var names []string
	for _, key := range f.keys {
		names = append(names, key.Name)
	}
	for _, l := range f.lanes {
		for _, w := range l.waiting {
			names = append(names, w.key)
		}
	}
	slices.Sort(names)
	return slices.Compact(names)
}

// records is how many are taken or wait, all together.
func (f *Flow) records() int {
	sum := f.keys.taken()
	for _, l := range f.lanes {
		sum += len(l.waiting)
	}
	return sum
}

// drain takes what need not wait any longer.
func (f *Flow) drain(session int) {
	for {
		w, ok := f.lanes[session].next()
		if !ok {
			return
		}
		f.keys.take(w.key, w.value)
	}
}

// State tells how all sessions and keys stand, in memory of its own (P5).
func (f *Flow) State() api.State {
	sessions := make([]api.Session, 0, api.MaxSessions)
	for _, l := range f.lanes {
		sessions = append(sessions, l.state())
	}
	return api.State{Sessions: sessions, Keys: slices.Clone(f.keys)}
}
