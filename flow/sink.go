package flow

import "culvert/api"

// Puts tells what the sink does not hold yet, in the order of the keys (P6).
func (f *Flow) Puts() []api.Put {
	puts := make([]api.Put, 0, len(f.keys))
	for _, key := range f.keys {
		if key.Count > key.Held {
			puts = append(puts, api.Put{Key: key.Name, Token: key.Count, Value: key.Fold})
		}
	}
	return puts
}

// Answer takes the token that the sink says it holds for a key (P7).
func (f *Flow) Answer(name string, held int) api.Errno {
	if !isKey(name) {
		return api.ErrKey
	}
	at, found := f.keys.find(name)
	if !found {
		return api.ErrNone
	}
	key := &f.keys[at]
	if held < 0 || held > key.Count {
		return api.ErrHeld
	}
	// Answers come late and out of order: an older one takes nothing back.
	key.Held = max(key.Held, held)
	return api.OK
}
