package culvert_test

import (
	"math/rand"
	"slices"
	"strings"
	"testing"

	"culvert/api"
	"culvert/culvert"
)

// P8: each call with OK leaves the bytes as they were, with something behind or nothing, and what
// changes something leaves other bytes: those tell of one state alone.
func TestP8BytesGrow(t *testing.T) {
	r := culvert.New()
	for i, call := range []func(){
		func() { accepts(t, r, rec(0, "s", 5), 1) },
		func() { accepts(t, r, rec(2, "s", 7), 1) },
		func() { accepts(t, r, rec(1, "s", 6), 3) },
		func() { answers(t, r, "s", 2) },
		func() { answers(t, r, "s", 3) },
		func() { accepts(t, r, in(0, 1, rec(3, "l", 9)), 0) },
		func() { accepts(t, r, in(0, maxInt, rec(0, "m\xff", maxValue)), 1) },
		func() { accepts(t, r, in(3, maxInt, rec(3, "l", 9)), 0) },
	} {
		kept := bytesOf(t, r)
		call()
		if now := bytesOf(t, r); !strings.HasPrefix(now, kept) || now == kept {
			t.Errorf("behind call %d: bytes %q, were %q", i, now, kept)
		}
	}
}

// P8: so do the calls with OK that change nothing. They could leave something behind; but what is sent again and
// again would make the bytes grow for ever, and tell nothing.
func TestP8BytesOfCallsThatChangeNothing(t *testing.T) {
	r := waitingEverywhere(t)
	answers(t, r, "s", 1)
	state := stateOf(t, r)
	for range 3 {
		for _, call := range []func(){
			func() { accepts(t, r, rec(0, "s", 5), 1) },
			func() { accepts(t, r, rec(0, "m", 9), 1) },
			func() { accepts(t, r, rec(2, "s", 7), 1) },
			func() { accepts(t, r, rec(3, "l", 0), 1) },
			func() { answers(t, r, "s", 1) },
			func() { answers(t, r, "s", 0) },
			func() { answers(t, r, "c", 0) },
		} {
			kept := bytesOf(t, r)
			call()
			if now := bytesOf(t, r); now != kept {
				t.Errorf("the bytes are %q, were %q", now, kept)
			}
			shows(t, again(t, r), state)
		}
	}
	kept := bytesOf(t, r)
	for _, call := range []func(){func() { r.Puts() }, func() { r.State() }, func() { r.Bytes() }} {
		call()
		if now := bytesOf(t, r); now != kept {
			t.Errorf("asking made the bytes %q of %q", now, kept)
		}
	}
}

// P8 and P1: every call with an error leaves the bytes as they are. (refuses and denies look.)
func TestP8BytesBehindErrors(t *testing.T) {
	r := waitingEverywhere(t)
	accepts(t, r, in(2, 4, rec(0, "l", 1)), 1)
	accepts(t, r, in(2, 4, rec(1, "m", 1)), 2)
	refuses(t, r, in(4, 0, rec(1, "s", 1)), api.ErrSession)
	refuses(t, r, rec(1, "x", 1), api.ErrKey)
	refuses(t, r, rec(1, "s", maxValue+1), api.ErrKey)
	refuses(t, r, in(2, 3, rec(2, "s", 1)), api.ErrEpoch)
	refuses(t, r, rec(5, "s", 1), api.ErrFar)
	refuses(t, r, in(0, 1, rec(4, "s", 1)), api.ErrFar)
	refuses(t, r, rec(1, "s1", 1), api.ErrMany)
	refuses(t, r, in(0, 1, rec(1, "s1", 1)), api.ErrMany)
	denies(t, r, "x", 0, api.ErrKey)
	denies(t, r, "s1", 0, api.ErrNone)
	denies(t, r, "s", 2, api.ErrHeld)
	denies(t, r, "s", -1, api.ErrHeld)
	fill(t, r, "s", 993)
	refuses(t, r, rec(1, "s", 1), api.ErrFull)
	refuses(t, r, in(3, 1, rec(0, "s", 1)), api.ErrFull)
	shows(t, again(t, r), stateOf(t, r))
}

// P8: what is kept behind a Shrink is the same: the state, the puts, and all of those that wait.
func TestP8ShrinkKeeps(t *testing.T) {
	r := waitingEverywhere(t)
	accepts(t, r, in(1, 0, rec(3, "l", 44)), 1)
	answers(t, r, "s", 1)
	state, put := stateOf(t, r), putsOf(t, r)
	shrunk(t, r)
	for _, q := range []*culvert.Relay{r, again(t, r)} {
		shows(t, q, state)
		puts(t, q, put)
		accepts(t, q, rec(1, "s", 1), 4)
		accepts(t, q, in(1, 0, rec(1, "m", 3)), 4)
		shows(t, q, `0:4[] 0:4[] 0:0[] 0:0[] "c"=2,2,0 "l"=1,44,0 "m"=1,3,0 "s"=4,19,1`)
	}
}

// P8: a Shrink forgets how it all came; the bytes of 1000 records are no more than those of a few.
func TestP8ShrinkMakesSmall(t *testing.T) {
	r := culvert.New()
	fill(t, r, "s", 1000)
	long := bytesOf(t, r)
	short := shrunk(t, r)
	if len(short)*10 > len(long) {
		t.Errorf("Shrink made %d bytes of %d", len(short), len(long))
	}
	if twice := shrunk(t, r); twice != short {
		t.Errorf("another Shrink made %q of %q", twice, short)
	}
	shows(t, opens(t, short), `0:0[] 0:0[] 0:0[] 0:1000[] "s"=1000,1000,0`)
}

// P8: two relays in the same state have the same bytes behind a Shrink, however they came there.
func TestP8ShrinkHangsOnTheStateAlone(t *testing.T) {
	ways := []func(r *culvert.Relay){
		func(r *culvert.Relay) {
			for n, key := range []string{"s", "m", "s", "m"} {
				accepts(t, r, rec(n, key, n), n+1)
			}
			accepts(t, r, rec(5, "s", 5), 4)
			accepts(t, r, rec(6, "l", 6), 4)
			accepts(t, r, rec(7, "c", 7), 4)
			accepts(t, r, in(2, 9, rec(1, "s", 5)), 0)
			answers(t, r, "s", 2)
		},
		func(r *culvert.Relay) {
			accepts(t, r, in(2, 8, rec(2, "m9", 5)), 0)
			accepts(t, r, in(2, 9, rec(1, "s", 5)), 0)
			accepts(t, r, rec(3, "m", 3), 0)
			accepts(t, r, rec(2, "s", 2), 0)
			accepts(t, r, rec(1, "m", 1), 0)
			accepts(t, r, rec(0, "s", 0), 4)
			accepts(t, r, rec(7, "c", 7), 4)
			accepts(t, r, rec(6, "l", 6), 4)
			accepts(t, r, rec(5, "s", 5), 4)
			answers(t, r, "s", 1)
			answers(t, r, "s", 2)
			answers(t, r, "m", 0)
			answers(t, r, "s", 1)
		},
		func(r *culvert.Relay) {
			accepts(t, r, rec(2, "s", 2), 0)
			shrunk(t, r)
			accepts(t, r, rec(0, "s", 0), 1)
			accepts(t, r, rec(3, "m", 3), 1)
			answers(t, r, "s", 1)
			shrunk(t, r)
			accepts(t, r, rec(1, "m", 1), 4)
			accepts(t, r, rec(6, "l", 6), 4)
			accepts(t, r, rec(5, "s", 5), 4)
			accepts(t, r, in(2, 9, rec(1, "s", 5)), 0)
			accepts(t, r, rec(7, "c", 7), 4)
			accepts(t, r, rec(7, "c", 8), 4)
			answers(t, r, "s", 2)
		},
	}
	var all []string
	for i, way := range ways {
		r := culvert.New()
		way(r)
		shows(t, r, `0:4[5 6 7] 0:0[] 9:0[1] 0:0[] "m"=2,3,0 "s"=2,2,2`)
		q := again(t, r)
		all = append(all, shrunk(t, r), shrunk(t, q), shrunk(t, again(t, q)))
		if all[3*i] != all[0] || all[3*i+1] != all[0] || all[3*i+2] != all[0] {
			t.Errorf("way %d: bytes %q, want %q", i, all[3*i:], all[0])
		}
	}
}

// P8: what the document calls the same state is the waiting records' keys and values too: others have other bytes.
func TestP8ShrunkBytesTellStatesApart(t *testing.T) {
	seen := map[string]int{}
	for i, x := range []api.Record{
		rec(1, "s", 1), rec(1, "s", 2), rec(1, "c", 1), rec(1, "s1", 1), rec(2, "s", 1), rec(0, "s", 1), rec(0, "s", 2),
		in(1, 0, rec(1, "s", 1)), in(0, 1, rec(1, "s", 1)), in(0, maxInt, rec(1, "s", 1)), in(0, 1, rec(0, "s", 1)),
		rec(1, "s\x00", 1), rec(1, "s\x01", 1), rec(1, "s", maxValue), rec(1, "s", 0),
	} {
		r := culvert.New()
		r.Accept(x)
		bytes := shrunk(t, r)
		if other, found := seen[bytes]; found {
			t.Errorf("records %d and %d have the same bytes", other, i)
		}
		seen[bytes] = i
	}
}

// P8: the same records, sent in two orders and again, and the same answers, have the same bytes in the end.
// Folds of l hang on the order: no such keys are here.
func TestP8ShrinkInAnyOrder(t *testing.T) {
	for seed := range int64(40) {
		source := rand.New(rand.NewSource(seed))
		var records []api.Record
		for session := range 4 {
			gap := 4 + source.Intn(8)
			for n := range gap + 4 {
				if n != gap {
					key := []string{"c", "s", "m", "s\x00\xff"}[source.Intn(4)]
					records = append(records, in(session, session*7, rec(n, key, source.Intn(100))))
				}
			}
		}
		a, b := sendAll(t, source, records), sendAll(t, source, records)
		if stateOf(t, a) != stateOf(t, b) {
			t.Fatalf("seed %d: the states are %s and %s", seed, stateOf(t, a), stateOf(t, b))
		}
		if x, y := shrunk(t, a), shrunk(t, b); x != y {
			t.Errorf("seed %d: the bytes are %q and %q", seed, x, y)
		}
	}
}

// sendAll sends records again and again, each time in another order, until nothing changes, and answers in any order.
func sendAll(t *testing.T, source *rand.Rand, records []api.Record) *culvert.Relay {
	t.Helper()
	r := culvert.New()
	for before := ""; before != stateOf(t, r); {
		before = stateOf(t, r)
		for _, i := range source.Perm(len(records)) {
			r.Accept(records[i])
		}
	}
	s, _ := r.State()
	held := slices.Clone(s.Keys)
	source.Shuffle(len(held), func(i, j int) { held[i], held[j] = held[j], held[i] })
	for _, key := range held {
		answers(t, r, key.Name, source.Intn(key.Count))
		answers(t, r, key.Name, key.Count-1)
	}
	return r
}
