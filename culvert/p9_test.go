package culvert_test

import (
	"fmt"
	"math/rand"
	"strings"
	"testing"
	"unsafe"

	"culvert/api"
	"culvert/culvert"
)

// P9, example 4: bytes that lost their last one tell of the Accept ahead.
func TestP9Example4(t *testing.T) {
	r := culvert.New()
	accepts(t, r, rec(0, "s", 5), 1)
	accepts(t, r, rec(2, "s", 7), 1)
	bytes := bytesOf(t, r)
	shows(t, opens(t, bytes), `0:1[2]`+rest+` "s"=1,5,0`)
	shows(t, opens(t, bytes[:len(bytes)-1]), `0:1[]`+rest+` "s"=1,5,0`)
}

// P9: bytes of a new relay, and of one that was shrunk as new.
func TestP9OpenOfNew(t *testing.T) {
	r := culvert.New()
	shows(t, again(t, r), "0:0[]"+rest)
	shows(t, opens(t, shrunk(t, r)), "0:0[]"+rest)
	q := again(t, r)
	accepts(t, q, rec(0, "s", 5), 1)
	shows(t, again(t, q), "0:1[]"+rest+` "s"=1,5,0`)
	shows(t, r, "0:0[]"+rest)
}

// P9: a relay that was opened goes on as the other one does, those that wait with their keys and values, and Held.
func TestP9OpenedGoesOn(t *testing.T) {
	r := waitingEverywhere(t)
	answers(t, r, "c", 1)
	for range 3 {
		q := again(t, r)
		shows(t, q, strings.Replace(waitingEverywhereShows, `"c"=1,1,0`, `"c"=1,1,1`, 1))
		puts(t, q, `"s" 1 5`)
		accepts(t, q, rec(2, "m", 99), 1)
		accepts(t, q, rec(1, "s", 1), 4)
		accepts(t, q, in(1, 0, rec(1, "l", 1)), 3)
		denies(t, q, "l", 2, api.ErrHeld)
		shows(t, q, `0:4[] 0:3[] 0:0[] 0:0[] "c"=2,2,1 "l"=1,1,0 "s"=4,19,0`)
		shows(t, again(t, q), stateOf(t, q))
		shrunk(t, r)
	}
}

// P9: epochs and numbers as great as they can be, keys with any bytes, values at both ends.
func TestP9Extremes(t *testing.T) {
	r := culvert.New()
	accepts(t, r, in(0, maxInt, rec(0, "s\x00\xff\x80r", maxValue)), 1)
	accepts(t, r, in(0, maxInt, rec(3, "l\n\r\"\\a", maxValue)), 1)
	accepts(t, r, in(3, maxInt-1, rec(0, "s\x00\xff\x80r", 2)), 1)
	accepts(t, r, in(3, maxInt-1, rec(2, "mculve", 0)), 1)
	accepts(t, r, in(2, 1<<31, rec(3, "s\x00\xff\x80r", maxValue)), 0)
	fillIn(t, r, 1, "c\xff\xff\xff\xff\xff", 995)
	answers(t, r, "c\xff\xff\xff\xff\xff", 995)
	answers(t, r, "s\x00\xff\x80r", 1)
	const want = `9223372036854775807:1[3] 0:995[] 2147483648:0[3] 9223372036854775806:1[2] ` +
		`"c\xff\xff\xff\xff\xff"=995,995,995 "s\x00\xff\x80r"=2,1,1`
	shows(t, r, want)
	for _, bytes := range []string{bytesOf(t, r), shrunk(t, r)} {
		q := opens(t, bytes)
		shows(t, q, want)
		refuses(t, q, in(0, maxInt, rec(1, "s", 0)), api.ErrMany)
		refuses(t, q, in(0, maxInt, rec(1, "mculve", 0)), api.ErrFull)
		refuses(t, q, in(0, maxInt-1, rec(0, "mculve", 0)), api.ErrEpoch)
		refuses(t, q, in(0, minInt, rec(0, "mculve", 0)), api.ErrEpoch)
		accepts(t, q, in(2, maxInt, rec(0, "s\x00\xff\x80r", maxValue)), 1)
		shows(t, again(t, q), stateOf(t, q))
	}
}

// fillIn is fill, in a session of choice.
func fillIn(t *testing.T, r *culvert.Relay, session int, key string, count int) {
	t.Helper()
	for n := range count {
		accepts(t, r, in(session, 0, rec(n, key, 1)), n+1)
	}
}

// P9: each fold goes on from what is kept of it.
func TestP9FoldsGoOn(t *testing.T) {
	r := culvert.New()
	for n, key := range []string{"c", "s", "l", "m"} {
		accepts(t, r, rec(n, key, maxValue), n+1)
	}
	for _, bytes := range []string{bytesOf(t, r), shrunk(t, r)} {
		q := opens(t, bytes)
		for n, key := range []string{"c", "s", "l", "m"} {
			accepts(t, q, rec(4+n, key, 3), 5+n)
		}
		shows(t, q, `0:8[]`+rest+` "c"=2,2,0 "l"=2,3,0 "m"=2,4294967295,0 "s"=2,2,0`)
	}
}

// P9: the limits of keys and records hold in opened relays as in others.
func TestP9LimitsGoOn(t *testing.T) {
	r := culvert.New()
	accepts(t, r, rec(3, "c", 1), 0)
	accepts(t, r, rec(2, "s", 1), 0)
	accepts(t, r, in(1, 0, rec(2, "l", 1)), 0)
	fill(t, r, "m", 997)
	for _, bytes := range []string{bytesOf(t, r), shrunk(t, r)} {
		q := opens(t, bytes)
		refuses(t, q, rec(1, "s1", 1), api.ErrMany)
		refuses(t, q, rec(1, "s", 1), api.ErrFull)
		accepts(t, q, in(0, 1, rec(0, "l1", 1)), 1)
		accepts(t, q, in(0, 1, rec(1, "l", 1)), 2)
		refuses(t, q, in(0, 1, rec(2, "l", 1)), api.ErrFull)
		shows(t, again(t, q), `1:2[] 0:0[2] 0:0[] 0:997[] "l"=1,1,0 "l1"=1,1,0 "m"=997,1,0`)
	}
}

// moment is how a relay stood when its bytes were so long.
type moment struct {
	length int
	stood  *model
}

// P9: every beginning of bytes that is not shorter than those behind the last Shrink (or New, or Open) tells how the
// relay stood at the latest time at which they were no longer. What is opened so goes on, and is cut again.
func TestP9EveryBeginning(t *testing.T) {
	for seed := range int64(25) {
		source := rand.New(rand.NewSource(seed))
		r, m := culvert.New(), &model{}
		if seed%2 == 1 { // great numbers are many bytes, and each of them may be the last
			sameAccept(t, r, m, in(1, maxInt-9, rec(0, "s", maxValue)))
			sameAccept(t, r, m, in(2, 1<<40, rec(1, "m", maxValue)))
		}
		for round := range 4 {
			moments := run(t, source, r, m, 30, 2+int(seed)%7)
			bytes := bytesOf(t, r)
			checkBeginnings(t, bytes, moments)
			if round == 2 {
				shrunk(t, r)
				continue
			}
			first := moments[0].length
			cut := first + source.Intn(len(bytes)-first+1)
			r, m = opens(t, bytes[:cut]), latest(moments, cut).clone()
		}
	}
}

// run does so many calls to both, and tells of each moment since the last Shrink.
func run(t *testing.T, source *rand.Rand, r *culvert.Relay, m *model, calls, keys int) []moment {
	t.Helper()
	moments := []moment{{len(bytesOf(t, r)), m.clone()}}
	for i := range calls {
		sameCall(t, source, r, m, keys)
		if i == calls/2 && source.Intn(2) == 0 {
			shrunk(t, r)
			sameStand(t, r, m, "Shrink")
			moments = nil
		}
		moments = append(moments, moment{len(bytesOf(t, r)), m.clone()})
	}
	return moments
}

func latest(moments []moment, length int) *model {
	stood := moments[0].stood
	for _, at := range moments {
		if at.length <= length {
			stood = at.stood
		}
	}
	return stood
}

func checkBeginnings(t *testing.T, bytes string, moments []moment) {
	t.Helper()
	for n := moments[0].length; n <= len(bytes); n++ {
		q, m := opens(t, bytes[:n]), latest(moments, n).clone()
		if now := bytesOf(t, q); !strings.HasPrefix(bytes[:n], now) {
			t.Fatalf("opened with %q, its bytes are %q", bytes[:n], now)
		}
		sameStand(t, q, m, bytes[:n])
		drainAll(t, q, m)
	}
}

// drainAll sends what is missing, so that those that wait are taken, and show their keys and values.
func drainAll(t *testing.T, r *culvert.Relay, m *model) {
	t.Helper()
	for session := range 4 {
		for range 4 {
			sameAccept(t, r, m, in(session, m.epoch[session], rec(m.base[session], "s", 1)))
		}
	}
}

// P9: the bytes of a relay that was just opened are a beginning of those that it was opened with: that which
// counted. So they tell the same once more, and all of them are there if they were the bytes of a relay.
func TestP9BytesOfOpened(t *testing.T) {
	r := waitingEverywhere(t)
	first := len(bytesOf(t, culvert.New()))
	bytes := bytesOf(t, r)
	if now := bytesOf(t, opens(t, bytes)); now != bytes {
		t.Errorf("opened with %q, its bytes are %q", bytes, now)
	}
	for n := first; n <= len(bytes); n++ {
		q := opens(t, bytes[:n])
		now := bytesOf(t, q)
		if !strings.HasPrefix(bytes[:n], now) {
			t.Errorf("opened with %q, its bytes are %q", bytes[:n], now)
		}
		shows(t, opens(t, now), stateOf(t, q))
		accepts(t, q, in(3, 5, rec(0, "s", 1)), 1)
		grows(t, q, now, api.OK)
		shows(t, again(t, q), stateOf(t, q))
	}
}

// P9 and P2: relays of the same bytes are apart, from each other and from the one whose bytes they were.
func TestP9OpenedAreApart(t *testing.T) {
	r := waitingEverywhere(t)
	bytes := bytesOf(t, r)
	a, b := opens(t, bytes), opens(t, bytes)
	accepts(t, a, rec(1, "s", 1), 4)
	accepts(t, b, in(0, 3, rec(2, "m", 1)), 0)
	answers(t, b, "c", 1)
	r.Close()
	shows(t, a, `0:4[] 0:1[2] 0:0[] 0:0[] "c"=1,1,0 "s"=4,19,0`)
	shows(t, b, `3:0[2] 0:1[2] 0:0[] 0:0[] "c"=1,1,1 "s"=1,5,0`)
	shows(t, again(t, a), stateOf(t, a))
	shows(t, again(t, b), stateOf(t, b))
	shows(t, opens(t, bytes), waitingEverywhereShows)
}

// P2: Open keeps nothing of the caller's memory.
func TestP9OpenKeepsNoMemory(t *testing.T) {
	r := waitingEverywhere(t)
	shrunk(t, r)
	accepts(t, r, in(2, 0, rec(2, "mabcde", 1)), 0)
	accepts(t, r, in(2, 0, rec(0, "labcde", 1)), 1)
	state, bytes := stateOf(t, r), bytesOf(t, r)
	lent := []byte(bytes)
	q := opens(t, unsafe.String(&lent[0], len(lent)))
	for i := range lent {
		lent[i] = 'x'
	}
	shows(t, q, state)
	if now := bytesOf(t, q); now != bytes {
		t.Errorf("the bytes are %q, were %q", now, bytes)
	}
	accepts(t, q, in(2, 0, rec(1, "labcde", 1)), 3)
	shows(t, q, `0:1[2 3] 0:1[2] 0:3[] 0:0[] "c"=1,1,0 "labcde"=2,1,0 "mabcde"=1,1,0 "s"=1,5,0`)
}

// anyRelay opens any bytes: what comes is a relay or ErrBytes, not both; all calls of the relay end, and
// another one of the same bytes answers the same (P1, P2).
func anyRelay(t *testing.T, bytes string) {
	t.Helper()
	a, errno := culvert.Open(bytes)
	b, same := culvert.Open(bytes)
	if (a == nil) != (errno == api.ErrBytes) || (a != nil) != (errno == api.OK) || errno != same {
		t.Fatalf("Open(%.80q) gives a relay: %t, with %d, then %d", bytes, a != nil, errno, same)
	}
	if a == nil {
		return
	}
	if now := bytesOf(t, a); !strings.HasPrefix(bytes, now) {
		t.Fatalf("opened with %.80q, its bytes are %.80q", bytes, now)
	}
	if x, y := callAll(a), callAll(b); x != y {
		t.Fatalf("opened with %.80q, two relays answer %s and %s", bytes, x, y)
	}
}

// callAll makes each call, some with an error, and tells all that they answer.
func callAll(r *culvert.Relay) string {
	var told strings.Builder
	for session := range 5 {
		for _, number := range []int{0, 1, 3, 1000, minInt, maxInt} {
			for _, epoch := range []int{0, 1, maxInt} {
				base, errno := r.Accept(in(session, epoch, rec(number, "s", 1)))
				fmt.Fprintln(&told, base, errno)
			}
		}
	}
	for _, held := range []int{0, 1, 1000, minInt, maxInt} {
		fmt.Fprintln(&told, r.Answer("s", held), r.Answer("c", held), r.Answer("", held))
	}
	for range 2 {
		state, stateErrno := r.State()
		puts, putsErrno := r.Puts()
		bytes, bytesErrno := r.Bytes()
		fmt.Fprintln(&told, state, stateErrno, puts, putsErrno, bytes, bytesErrno, r.Shrink())
	}
	fmt.Fprintln(&told, r.Close(), r.Close())
	return told.String()
}

// some are bytes of relays in many states, long and short.
func some(t *testing.T) []string {
	t.Helper()
	r := waitingEverywhere(t)
	all := []string{bytesOf(t, culvert.New()), bytesOf(t, r), shrunk(t, r)}
	accepts(t, r, in(2, maxInt, rec(0, "m", maxValue)), 1)
	accepts(t, r, in(2, maxInt, rec(3, "s\x00\xff\x80ra", maxValue)), 1)
	answers(t, r, "s", 1)
	all = append(all, bytesOf(t, r), shrunk(t, r))
	fill(t, r, "c", 900)
	answers(t, r, "c", 901)
	return append(all, shrunk(t, r))
}

// P9 and P1: the empty string, bytes of no relay, and long rows of one byte.
func TestP9ForeignBytes(t *testing.T) {
	for _, bytes := range []string{
		"", "x", "culvert", "culvert\n", "\x00\x00\x00\x00", "{}", "0 0 0 0", strings.Repeat("culvert", 99), strings.Repeat("culvert1", 999),
	} {
		anyRelay(t, bytes)
	}
	good := some(t)
	for b := range 256 {
		one := string([]byte{byte(b)})
		for _, count := range []int{1, 2, 9, 10, 100, 5000} {
			anyRelay(t, strings.Repeat(one, count))
			for _, bytes := range good {
				anyRelay(t, bytes+strings.Repeat(one, count))
			}
		}
	}
}

// P9 and P1: bytes of which one was changed, left out or laid in, or that were cut, or laid behind others.
func TestP9SpoiltBytes(t *testing.T) {
	for _, bytes := range some(t) {
		for i := range bytes {
			for b := range 256 {
				anyRelay(t, bytes[:i]+string([]byte{byte(b)})+bytes[i+1:])
			}
			anyRelay(t, bytes[:i])
			anyRelay(t, bytes[i:])
			anyRelay(t, bytes[:i]+bytes[i+1:])
			anyRelay(t, bytes[:i]+"\xff"+bytes[i:])
			anyRelay(t, bytes[:i]+"\x00"+bytes[i:])
		}
		for _, other := range some(t) {
			anyRelay(t, bytes+other)
		}
	}
}

// P9 and P1: bytes of which several were changed, from a seeded source.
func TestP9BytesSpoiltManyTimes(t *testing.T) {
	source := rand.New(rand.NewSource(9))
	for _, bytes := range some(t) {
		for range 3000 {
			spoilt := []byte(bytes)
			for range 1 + source.Intn(4) {
				spoilt[source.Intn(len(spoilt))] = byte(pick(source, source.Intn(256), 0, 127, 128, 255))
			}
			anyRelay(t, string(spoilt))
		}
	}
}

// P9: what does not begin as a relay's bytes do is refused here, and so is what goes on as they never do. The
// document leaves that open; but bytes that were spoilt are better told of than taken for less than they were.
func TestP9Refused(t *testing.T) {
	bytes := bytesOf(t, waitingEverywhere(t))
	for _, bad := range []string{"", "x", strings.Repeat("9", 100), bytesOf(t, culvert.New())[:9], bytes + "x", bytes + bytes} {
		if r, errno := culvert.Open(bad); r != nil || errno != api.ErrBytes {
			t.Errorf("Open(%.80q) gives a relay: %t, with %d", bad, r != nil, errno)
		}
	}
}

// P9: bytes outlive the relay.
func TestP9BytesOutliveTheRelay(t *testing.T) {
	r := waitingEverywhere(t)
	bytes := bytesOf(t, r)
	r.Close()
	shows(t, opens(t, bytes), waitingEverywhereShows)
}

// P9 and P3: an opened relay is closed as others are, and is not closed when it comes.
func TestP9OpenedCloses(t *testing.T) {
	r := again(t, waitingEverywhere(t))
	if errno := r.Close(); errno != api.OK {
		t.Errorf("Close() = %d", errno)
	}
	if bytes, errno := r.Bytes(); bytes != "" || errno != api.ErrClosed {
		t.Errorf("Bytes() = %q, %d", bytes, errno)
	}
	if errno := r.Shrink(); errno != api.ErrClosed {
		t.Errorf("Shrink() = %d", errno)
	}
	if base, errno := r.Accept(rec(1, "s", 1)); base != 0 || errno != api.ErrClosed {
		t.Errorf("Accept = %d, %d", base, errno)
	}
	if errno := r.Close(); errno != api.ErrClosed {
		t.Errorf("another Close() = %d", errno)
	}
}

// P9: any bytes at all, as far as a search for them goes (go test -fuzz FuzzP9 ./culvert).
func FuzzP9(f *testing.F) {
	for _, bytes := range []string{"", "culvert1", "x"} {
		f.Add(bytes)
	}
	r := culvert.New()
	r.Accept(rec(0, "s", 5))
	r.Accept(rec(2, "s", 7))
	r.Answer("s", 1)
	for range 2 {
		bytes, _ := r.Bytes()
		f.Add(bytes)
		r.Shrink()
	}
	f.Fuzz(func(t *testing.T, bytes string) { anyRelay(t, bytes) })
}
