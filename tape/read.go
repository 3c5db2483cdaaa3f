package tape

import (
	"culvert/api"
	"culvert/flow"
)

// maxWaiting is how many records may wait, in all sessions together.
const maxWaiting = api.MaxSessions * (api.MaxWindow - 1)

// Read tells the flow that a row was written of, how many bytes of the row that took, and what is wrong
// with those behind. If it took none, there is no whole head, and the row tells of no flow.
func Read(row string) (flow.Flow, int, error) {
	r := reader{row: row}
	told := r.head()
	counted := 0
	for r.err == nil {
		counted = r.at
		if counted == len(row) {
			break
		}
		r.entry(&told)
	}
	return told, counted, r.err
}

// reader goes through a row. Where something is wrong it stays, and reads nothing but zeros from there.
type reader struct {
	row string
	at  int
	err error
}

// fail keeps the first fault: those that follow come from it.
func (r *reader) fail(fault Fault) {
	if r.err == nil {
		r.err = &Place{At: r.at, Err: fault}
	}
}

func (r *reader) head() flow.Flow {
	if r.text(len(mark)) != mark {
		r.fail(Foreign)
	}
	var state api.State
	for range api.MaxSessions {
		state.Sessions = append(state.Sessions, api.Session{Epoch: r.number(), Base: r.number()})
	}
	for range r.upTo(api.MaxKeys) {
		state.Keys = append(state.Keys, api.Key{Name: r.key(), Count: r.number(), Fold: r.number(), Held: r.number()})
	}
	var waiting []api.Record
	for range r.upTo(maxWaiting) {
		waiting = append(waiting, r.record())
	}
	if r.err != nil {
		return flow.Flow{}
	}
	told, ok := flow.Restore(state, waiting)
	if !ok {
		r.fail(Foreign)
	}
	return told
}

// entry has the flow do again what it did when this was written, once all of it is read.
func (r *reader) entry(told *flow.Flow) {
	errno := api.OK
	switch r.text(len(recordEntry)) {
	case recordEntry:
		if x := r.record(); r.err == nil {
			_, _, errno = told.Accept(x)
		}
	case answerEntry:
		if name, held := r.key(), r.number(); r.err == nil {
			_, errno = told.Answer(name, held)
		}
	default:
		r.fail(Foreign)
	}
	if errno != api.OK {
		r.fail(Foreign)
	}
}

func (r *reader) record() api.Record {
	return api.Record{Session: r.number(), Epoch: r.number(), Number: r.number(), Key: r.key(), Value: r.number()}
}

func (r *reader) key() string { return r.text(r.upTo(api.MaxKey)) }

// upTo reads a number that says how much follows: no more than this, or foreign bytes could ask for anything.
func (r *reader) upTo(limit int) int {
	n := r.number()
	if n > limit {
		r.fail(Foreign)
		return 0
	}
	return n
}

func (r *reader) number() int {
	sum := 0
	for shift := 0; shift < numberBits; shift += digitBits {
		digit := r.text(1)
		if digit == "" {
			return 0
		}
		sum |= int(digit[0]&^more) << shift
		if digit[0] < more {
			return sum
		}
	}
	r.fail(Foreign)
	return 0
}

func (r *reader) text(size int) string {
	if r.err == nil && size > len(r.row)-r.at {
		r.fail(Cut)
	}
	if r.err != nil {
		return ""
	}
	r.at += size
	return r.row[r.at-size : r.at]
}
