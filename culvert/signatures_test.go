package culvert_test

import (
	"culvert/api"
	"culvert/culvert"
)

// The calls as the document lists them: it does not build if one of them is another.
var (
	_ func() *culvert.Relay                             = culvert.New
	_ func(string) (*culvert.Relay, api.Errno)          = culvert.Open
	_ func(*culvert.Relay, api.Record) (int, api.Errno) = (*culvert.Relay).Accept
	_ func(*culvert.Relay) ([]api.Put, api.Errno)       = (*culvert.Relay).Puts
	_ func(*culvert.Relay, string, int) api.Errno       = (*culvert.Relay).Answer
	_ func(*culvert.Relay) (api.State, api.Errno)       = (*culvert.Relay).State
	_ func(*culvert.Relay) (string, api.Errno)          = (*culvert.Relay).Bytes
	_ func(*culvert.Relay) api.Errno                    = (*culvert.Relay).Shrink
	_ func(*culvert.Relay) api.Errno                    = (*culvert.Relay).Close
)
