// Package culvert passes records through just once: see DOC.md.
package culvert

import (
	"sync"

	"culvert/api"
	"culvert/flow"
)

// Relay is one. Many may call it at the same time: each call has it for itself.
type Relay struct {
	mutex  sync.Mutex
	once   sync.Once
	closed bool // written in once alone
	flow   flow.Flow
}

// New makes a relay (P3).
func New() *Relay { return &Relay{} }

// Open makes a relay of bytes (P9). No bytes are known to it yet, so it refuses all.
func Open(bytes string) (*Relay, api.Errno) { return nil, api.ErrBytes }

// Accept takes a record (P4).
func (r *Relay) Accept(x api.Record) (int, api.Errno) {
	r.mutex.Lock()
	defer r.mutex.Unlock()
	if r.closed {
		return 0, api.ErrClosed
	}
	return r.flow.Accept(x)
}

// Puts tells what the sink does not hold (P6).
func (r *Relay) Puts() ([]api.Put, api.Errno) {
	r.mutex.Lock()
	defer r.mutex.Unlock()
	if r.closed {
		return nil, api.ErrClosed
	}
	return r.flow.Puts(), api.OK
}

// Answer takes what the sink says (P7).
func (r *Relay) Answer(key string, held int) api.Errno {
	r.mutex.Lock()
	defer r.mutex.Unlock()
	if r.closed {
		return api.ErrClosed
	}
	return r.flow.Answer(key, held)
}

// State tells how all stands (P5).
func (r *Relay) State() (api.State, api.Errno) {
	r.mutex.Lock()
	defer r.mutex.Unlock()
	if r.closed {
		return api.State{}, api.ErrClosed
	}
	return r.flow.State(), api.OK
}

// Bytes tells what is kept (P8).
func (r *Relay) Bytes() (string, api.Errno) { return "", r.check() }

// Shrink makes that small (P8).
func (r *Relay) Shrink() api.Errno { return r.check() }

// Close closes it (P3).
func (r *Relay) Close() api.Errno {
	r.mutex.Lock()
	defer r.mutex.Unlock()
	errno := api.ErrClosed
	r.once.Do(func() {
		r.closed = true
		r.flow = flow.Flow{} // nobody can ask for it any more
		errno = api.OK
	})
	return errno
}

// check is what the calls answer that have nothing else to say yet.
func (r *Relay) check() api.Errno {
	r.mutex.Lock()
	defer r.mutex.Unlock()
	if r.closed {
		return api.ErrClosed
	}
	return api.OK
}
