// Package culvert passes records through just once: see DOC.md.
package culvert

import (
	"errors"
	"sync"

	"culvert/api"
	"culvert/flow"
	"culvert/tape"
)

// Relay is one. Many may call it at the same time: each call has it for itself.
type Relay struct {
	mutex  sync.Mutex
	once   sync.Once
	closed bool // written in once alone
	flow   flow.Flow
	bytes  []byte // what the flow was made of, and all that changed it since
}

// New makes a relay (P3).
func New() *Relay {
	return &Relay{bytes: tape.Head(&flow.Flow{})}
}

// Open makes a relay of bytes (P9).
func Open(bytes string) (*Relay, api.Errno) {
	told, counted, err := tape.Read(bytes)
	if counted == 0 || err != nil && !isCut(err) {
		return nil, api.ErrBytes
	}
	return &Relay{flow: told, bytes: []byte(bytes[:counted])}, api.OK
}

// isCut says whether no more is wrong than that the last call was not kept to its end: those ahead of it were.
func isCut(err error) bool {
	var fault tape.Fault
	return errors.As(err, &fault) && fault == tape.Cut
}

// Accept takes a record (P4).
func (r *Relay) Accept(x api.Record) (int, api.Errno) {
	r.mutex.Lock()
	defer r.mutex.Unlock()
	if r.closed {
		return 0, api.ErrClosed
	}
	base, changed, errno := r.flow.Accept(x)
	if changed {
		r.bytes = tape.AddRecord(r.bytes, x)
	}
	return base, errno
}

// Puts tells what the sink does not hold (P6).
func (r *Relay) Puts() ([]api.Put, api.Errno) {
	r.mutex.Lock()
	defer r.mutex.Unlock()
	if r.closed {
		return nil, api.ErrClosed
	}
	return r.flow.Puts(), api.OK
}

// Answer takes what the sink says (P7).
func (r *Relay) Answer(key string, held int) api.Errno {
	r.mutex.Lock()
	defer r.mutex.Unlock()
	if r.closed {
		return api.ErrClosed
	}
	changed, errno := r.flow.Answer(key, held)
	if changed {
		r.bytes = tape.AddAnswer(r.bytes, key, held)
	}
	return errno
}

// State tells how all stands (P5).
func (r *Relay) State() (api.State, api.Errno) {
	r.mutex.Lock()
	defer r.mutex.Unlock()
	if r.closed {
		return api.State{}, api.ErrClosed
	}
	return r.flow.State(), api.OK
}

// Bytes tells what is kept (P8).
func (r *Relay) Bytes() (string, api.Errno) {
	r.mutex.Lock()
	defer r.mutex.Unlock()
	if r.closed {
		return "", api.ErrClosed
	}
	return string(r.bytes), api.OK
}

// Shrink makes that small (P8).
func (r *Relay) Shrink() api.Errno {
	r.mutex.Lock()
	defer r.mutex.Unlock()
	if r.closed {
		return api.ErrClosed
	}
	r.bytes = tape.Head(&r.flow)
	return api.OK
}

// Close closes it (P3).
func (r *Relay) Close() api.Errno {
	r.mutex.Lock()
	defer r.mutex.Unlock()
	errno := api.ErrClosed
	r.once.Do(func() {
		r.closed = true
		r.flow, r.bytes = flow.Flow{}, nil // nobody can ask for them any more
		errno = api.OK
	})
	return errno
}
