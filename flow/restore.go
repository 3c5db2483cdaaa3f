package flow

import (
	"strings"

	"culvert/api"
)

// Waiting tells the records that wait, by session and by number, as they were sent.
func (f *Flow) Waiting() []api.Record {
	var records []api.Record
	for session, l := range f.lanes {
		for _, w := range l.ordered() {
			records = append(records, api.Record{Session: session, Epoch: l.epoch, Number: w.number, Key: w.key, Value: w.value})
		}
	}
	return records
}

// Restore makes the flow of which State (but for the numbers that wait) and Waiting tell, if there can be one.
func Restore(state api.State, waiting []api.Record) (Flow, bool) {
	if !canBe(state) {
		return Flow{}, false
	}
	var f Flow
	for i, s := range state.Sessions {
		f.lanes[i] = lane{epoch: s.Epoch, base: s.Base}
	}
	for _, key := range state.Keys {
		key.Name = strings.Clone(key.Name)
		f.keys = append(f.keys, key)
	}
	for _, x := range waiting {
		if _, _, errno := f.Accept(x); errno != api.OK {
			return Flow{}, false
		}
	}
	return f, true
}

// canBe says whether a flow can come to stand so.
func canBe(state api.State) bool {
	if len(state.Sessions) != api.MaxSessions || len(state.Keys) > api.MaxKeys {
		return false
	}
	taken, last := 0, ""
	for _, key := range state.Keys {
		if !keyCanBe(key) || key.Name <= last {
			return false
		}
		taken, last = taken+key.Count, key.Name
	}
	based := 0
	for _, s := range state.Sessions {
		if s.Epoch < 0 || s.Base < 0 || s.Base > api.MaxRecords {
			return false
		}
		based += s.Base
	}
	// What a session took in earlier epochs is in no base any more.
	return taken <= api.MaxRecords && based <= taken
}

func keyCanBe(key api.Key) bool {
	return isKey(key.Name) && isValue(key.Fold) &&
		key.Count >= 1 && key.Count <= api.MaxRecords && key.Held >= 0 && key.Held <= key.Count
}
