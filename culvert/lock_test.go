package culvert

import (
	"testing"
	"time"

	"culvert/api"
)

// Ways, Mutex: each call waits for a relay that another one has, and leaves it unlocked, whichever way it ends.
func TestEachCallLocksTheRelay(t *testing.T) {
	for name, call := range map[string]func(r *Relay){
		"Accept":          func(r *Relay) { r.Accept(api.Record{Key: "s", Value: 1}) },
		"Accept of wrong": func(r *Relay) { r.Accept(api.Record{Session: -1}) },
		"Puts":            func(r *Relay) { r.Puts() },
		"Answer":          func(r *Relay) { r.Answer("s", 1) },
		"Answer of wrong": func(r *Relay) { r.Answer("", -1) },
		"State":           func(r *Relay) { r.State() },
		"Bytes":           func(r *Relay) { r.Bytes() },
		"Shrink":          func(r *Relay) { r.Shrink() },
		"Close":           func(r *Relay) { r.Close() },
	} {
		open, closed := New(), New()
		open.Accept(api.Record{Key: "s", Value: 1})
		closed.Close()
		waits(t, name, open, call)
		waits(t, name+" behind Close", closed, call)
	}
}

// waits gives a call that does not lock time enough to end; one that does never ends in it.
func waits(t *testing.T, name string, r *Relay, call func(r *Relay)) {
	t.Helper()
	ended := make(chan int)
	r.mutex.Lock()
	go func() {
		call(r)
		close(ended)
	}()
	select {
	case <-ended:
		t.Errorf("%s did not wait", name)
	case <-time.After(20 * time.Millisecond):
	}
	r.mutex.Unlock()
	<-ended
	if !r.mutex.TryLock() {
		t.Errorf("%s left the relay locked", name)
	}
}

// A relay that was closed holds on to nothing.
func TestCloseLetsGo(t *testing.T) {
	r := New()
	r.Accept(api.Record{Key: "s", Value: 1})
	r.Close()
	if r.bytes != nil || len(r.flow.State().Keys) != 0 {
		t.Errorf("%q and %v are kept behind Close", r.bytes, r.flow.State())
	}
}
