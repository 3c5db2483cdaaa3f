package flow

import (
	"math"
	"strings"

	"culvert/api"
)

// kinds are the first bytes that a key may have: each names a fold.
const kinds = "cslm"

// checkRecord finds what is wrong with a record, whatever the flow holds.
func checkRecord(x api.Record) api.Errno {
	if x.Session < 0 || x.Session >= api.MaxSessions {
		return api.ErrSession
	}
	if !isKey(x.Key) || !isValue(x.Value) {
		return api.ErrKey
	}
	return api.OK
}

func isKey(key string) bool {
	return len(key) >= 1 && len(key) <= api.MaxKey && strings.IndexByte(kinds, key[0]) >= 0
}

func isValue(value int) bool {
	return value >= 0 && value <= math.MaxUint32
}
