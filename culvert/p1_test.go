package culvert_test

import (
	"strings"
	"testing"

	"culvert/api"
	"culvert/culvert"
)

// P1: of several errors, the one named first is the answer. Each record here has the fault it is
// refused for, and all those that are named behind it and can be had along with it.
func TestP1FirstErrorIsTheAnswer(t *testing.T) {
	r := culvert.New()
	accepts(t, r, in(0, 2, rec(0, "c", 1)), 1)
	accepts(t, r, in(1, 0, rec(0, "s", 1)), 1)
	accepts(t, r, in(2, 0, rec(0, "l", 1)), 1)
	fill(t, r, "m", 997)
	for _, x := range []struct {
		record api.Record
		want   api.Errno
	}{
		{in(-1, -1, rec(-1, "", -1)), api.ErrSession},
		{in(4, 0, rec(9, "x", 1<<32)), api.ErrSession},
		{in(0, 1, rec(-1, "", 0)), api.ErrKey},
		{in(0, 1, rec(9, "c", -1)), api.ErrKey},
		{in(0, 1, rec(-1, "c9", 0)), api.ErrEpoch},
		{in(0, 1, rec(0, "c9", 0)), api.ErrEpoch},
		{in(0, 2, rec(5, "c9", 0)), api.ErrFar},
		{in(0, 2, rec(-1, "c9", 0)), api.ErrFar},
		{in(0, 3, rec(4, "c9", 0)), api.ErrFar},
		{in(0, 2, rec(1, "c9", 0)), api.ErrMany},
		{in(0, 3, rec(0, "c9", 0)), api.ErrMany},
		{in(0, 2, rec(1, "c", 0)), api.ErrFull},
		{in(0, 3, rec(0, "c", 0)), api.ErrFull},
	} {
		refuses(t, r, x.record, x.want)
	}
}

// P1: a new epoch that comes with an error has not come, and those that wait go on waiting.
func TestP1AnErrorKeepsTheEpoch(t *testing.T) {
	for _, x := range []struct {
		record api.Record
		want   api.Errno
	}{
		{in(0, 7, rec(0, "z", 0)), api.ErrKey},
		{in(0, 7, rec(0, "s", -1)), api.ErrKey},
		{in(0, 7, rec(4, "s", 0)), api.ErrFar},
		{in(0, 7, rec(-1, "s", 0)), api.ErrFar},
		{in(0, 7, rec(0, "m9", 0)), api.ErrMany},
		{in(0, 7, rec(3, "m9", 0)), api.ErrMany},
	} {
		r := culvert.New()
		for i, key := range []string{"s", "l", "c", "m"} {
			accepts(t, r, in(1, 0, rec(i, key, 1)), i+1)
		}
		accepts(t, r, rec(2, "l", 30), 0)
		accepts(t, r, rec(1, "l", 20), 0)
		refuses(t, r, x.record, x.want)
		accepts(t, r, rec(0, "s", 10), 3)
		shows(t, r, `0:3[] 0:4[] 0:0[] 0:0[] "c"=1,1,0 "l"=3,30,0 "m"=1,1,0 "s"=2,11,0`)
	}
}

// P1: the same where the relay is full: by others, since what waits here makes room as it goes.
func TestP1AnErrorOfAFullRelayKeepsTheEpoch(t *testing.T) {
	r := culvert.New()
	accepts(t, r, in(0, 2, rec(0, "s", 1)), 1)
	fill(t, r, "s", 999)
	refuses(t, r, in(0, 7, rec(0, "s", 0)), api.ErrFull)
	refuses(t, r, in(0, 7, rec(2, "s", 0)), api.ErrFull)
	shows(t, r, `2:1[] 0:0[] 0:0[] 0:999[] "s"=1000,1000,0`)
}

// P1: an error leaves the records that wait as they were sent, not only their numbers.
func TestP1ErrorsLeaveWaitingRecords(t *testing.T) {
	r := culvert.New()
	accepts(t, r, rec(1, "l", 11), 0)
	accepts(t, r, rec(2, "s", 22), 0)
	refuses(t, r, rec(1, "l", -5), api.ErrKey)
	refuses(t, r, rec(2, "x", 5), api.ErrKey)
	refuses(t, r, rec(4, "s", 5), api.ErrFar)
	refuses(t, r, in(0, -1, rec(1, "l", 99)), api.ErrEpoch)
	refuses(t, r, in(0, 1, rec(4, "l", 99)), api.ErrFar)
	accepts(t, r, rec(0, "s", 7), 3)
	shows(t, r, `0:3[]`+rest+` "l"=1,11,0 "s"=2,29,0`)
}

// P1: no call panics on anything it is given; the wrong ones of them change nothing.
func TestP1WrongInputsEnd(t *testing.T) {
	r := culvert.New()
	accepts(t, r, rec(0, "s", 1), 1)
	accepts(t, r, rec(3, "m", 4), 1)
	before := stateOf(t, r)
	for _, session := range []int{minInt, -1, 4, maxInt} {
		for _, key := range []string{"", "s", "\x00", "sssssss", strings.Repeat("c", 1<<20)} {
			for _, n := range []int{minInt, -1, 0, 5, maxInt} {
				refuses(t, r, api.Record{Session: session, Epoch: n, Number: n, Key: key, Value: n}, api.ErrSession)
			}
		}
	}
	for _, key := range []string{"", "x", "c", "\xff", "sssssss", strings.Repeat("s", 1<<20)} {
		for _, held := range []int{minInt, -1, maxInt} {
			r.Answer(key, held)
		}
	}
	for _, call := range []func(){func() { r.Puts() }, func() { r.Bytes() }, func() { r.Shrink() }} {
		call()
		call()
	}
	shows(t, r, before)
}

// P1: Open ends, and gives a relay or an error, never both and never neither; so do all calls of that relay.
func TestP1OpenOfAnyBytesEnds(t *testing.T) {
	kept := bytesOf(t, waitingEverywhere(t))
	for _, bytes := range []string{"", "\x00", "\xff", "s", "culvert", strings.Repeat("\x00", 1<<16), strings.Repeat("\xff", 1<<16)} {
		anyRelay(t, bytes)
		anyRelay(t, kept+bytes)
		anyRelay(t, bytes+kept)
		anyRelay(t, kept[:20]+bytes+kept[20:])
	}
}

// P1: bytes that are not taken give no relay at all.
func TestP1RefusedBytesGiveNil(t *testing.T) {
	if r, errno := culvert.Open(strings.Repeat("x", 30)); r != nil || errno != api.ErrBytes {
		t.Errorf("Open gives a relay: %t, with %d", r != nil, errno)
	}
}
