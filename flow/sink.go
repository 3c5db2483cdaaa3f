package flow

import "culvert/api"

// Puts tells what the sink does not hold yet, in the order of the keys (P6).
func (f *Flow) Puts() []api.Put {
	puts := make([]api.Put, 0, len(f.keys))
	for _, key := range f.keys {
		if key.Count > key.Held {
			puts = append(puts, api.Put{Key: key.Name, Token: key.Count, Value: key.Fold})
		}
	}
	return puts
}

// Answer takes the token that the sink says it holds for a key (P7), and tells whether anything changed.
func (f *Flow) Answer(name string, held int) (bool, api.Errno) {
	if !isKey(name) {
		return false, api.ErrKey
	}
	at, found := f.keys.find(name)
	if !found {
		return false, api.ErrNone
	}
	key := &f.keys[at]
	if held < 0 || held > key.Count {
		return false, api.ErrHeld
	}
	// Answers come late and out of order: an older one takes nothing back.
	if held <= key.Held {
		return false, api.OK
	}
	key.Held = held
	return true, api.OK
}
