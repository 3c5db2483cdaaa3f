package culvert_test

import (
	"fmt"
	"strings"
	"testing"

	"culvert/api"
	"culvert/culvert"
)

const (
	maxInt   = 1<<63 - 1
	minInt   = -1 << 63
	maxValue = 1<<32 - 1
)

// rec is a record of session 0 and epoch 0.
func rec(number int, key string, value int) api.Record {
	return api.Record{Number: number, Key: key, Value: value}
}

// in moves a record to another session and epoch.
func in(session, epoch int, x api.Record) api.Record {
	x.Session, x.Epoch = session, epoch
	return x
}

// accepts sends a record that must be let in, and lead to this base.
func accepts(t *testing.T, r *culvert.Relay, x api.Record, base int) {
	t.Helper()
	if got, errno := r.Accept(x); got != base || errno != api.OK {
		t.Fatalf("Accept(%s) = %d, %d, want %d, OK", tell(x), got, errno, base)
	}
}

// refuses sends a record that must be answered by an error, and change nothing that can be seen.
func refuses(t *testing.T, r *culvert.Relay, x api.Record, want api.Errno) {
	t.Helper()
	before, kept := stateOf(t, r), bytesOf(t, r)
	if got, errno := r.Accept(x); got != 0 || errno != want {
		t.Errorf("Accept(%s) = %d, %d, want 0, %d", tell(x), got, errno, want)
	}
	if after := stateOf(t, r); after != before {
		t.Errorf("Accept(%s) with an error left %s, was %s", tell(x), after, before)
	}
	if after := bytesOf(t, r); after != kept {
		t.Errorf("Accept(%s) with an error left bytes %q, were %q", tell(x), after, kept)
	}
}

// tell keeps the text of a record short, whatever its key.
func tell(x api.Record) string {
	return fmt.Sprintf("%d %d %d %.20q %d", x.Session, x.Epoch, x.Number, x.Key, x.Value)
}

// stateOf is State as a text: sessions as epoch:base[waiting], keys as "name"=count,fold,held.
func stateOf(t *testing.T, r *culvert.Relay) string {
	t.Helper()
	s, errno := r.State()
	if errno != api.OK {
		t.Fatalf("State() answers %d, want OK", errno)
	}
	return text(s)
}

func text(s api.State) string {
	var parts []string
	for _, x := range s.Sessions {
		parts = append(parts, fmt.Sprintf("%d:%d%v", x.Epoch, x.Base, x.Waiting))
	}
	for _, k := range s.Keys {
		parts = append(parts, fmt.Sprintf("%q=%d,%d,%d", k.Name, k.Count, k.Fold, k.Held))
	}
	return strings.Join(parts, " ")
}

// shows holds the state against a text such as stateOf makes.
func shows(t *testing.T, r *culvert.Relay, want string) {
	t.Helper()
	if got := stateOf(t, r); got != want {
		t.Errorf("State() = %s\nwant %s", got, want)
	}
}

// rest is the text of sessions 1 to 3 while they are untouched.
const rest = " 0:0[] 0:0[] 0:0[]"

// fill has session 3 take so many records of one key, each of value 1.
func fill(t *testing.T, r *culvert.Relay, key string, count int) {
	t.Helper()
	for n := range count {
		accepts(t, r, in(3, 0, rec(n, key, 1)), n+1)
	}
}

// putsOf is Puts as a text: each put as "key" token value.
func putsOf(t *testing.T, r *culvert.Relay) string {
	t.Helper()
	puts, errno := r.Puts()
	if errno != api.OK {
		t.Fatalf("Puts() answers %d, want OK", errno)
	}
	return putsText(puts)
}

func putsText(puts []api.Put) string {
	var parts []string
	for _, p := range puts {
		parts = append(parts, fmt.Sprintf("%q %d %d", p.Key, p.Token, p.Value))
	}
	return strings.Join(parts, ", ")
}

// puts holds what is put against a text such as putsOf makes.
func puts(t *testing.T, r *culvert.Relay, want string) {
	t.Helper()
	if got := putsOf(t, r); got != want {
		t.Errorf("Puts() = %s\nwant %s", got, want)
	}
}

// answers tells the relay a token that it must believe.
func answers(t *testing.T, r *culvert.Relay, key string, held int) {
	t.Helper()
	if errno := r.Answer(key, held); errno != api.OK {
		t.Fatalf("Answer(%q, %d) = %d, want OK", key, held, errno)
	}
}

// denies tells the relay a token that must be answered by an error, and change nothing that can be seen.
func denies(t *testing.T, r *culvert.Relay, key string, held int, want api.Errno) {
	t.Helper()
	state, put, kept := stateOf(t, r), putsOf(t, r), bytesOf(t, r)
	if errno := r.Answer(key, held); errno != want {
		t.Errorf("Answer(%.20q, %d) = %d, want %d", key, held, errno, want)
	}
	if after := stateOf(t, r); after != state {
		t.Errorf("Answer(%.20q, %d) with an error left %s, was %s", key, held, after, state)
	}
	if after := bytesOf(t, r); after != kept {
		t.Errorf("Answer(%.20q, %d) with an error left bytes %q, were %q", key, held, after, kept)
	}
	puts(t, r, put)
}

func bytesOf(t *testing.T, r *culvert.Relay) string {
	t.Helper()
	bytes, errno := r.Bytes()
	if errno != api.OK {
		t.Fatalf("Bytes() answers %d, want OK", errno)
	}
	return bytes
}

// opens makes a relay of bytes that must be good.
func opens(t *testing.T, bytes string) *culvert.Relay {
	t.Helper()
	r, errno := culvert.Open(bytes)
	if r == nil || errno != api.OK {
		t.Fatalf("Open(%.80q) gives a relay: %t, with %d", bytes, r != nil, errno)
	}
	return r
}

// shrunk are the bytes behind a Shrink.
func shrunk(t *testing.T, r *culvert.Relay) string {
	t.Helper()
	if errno := r.Shrink(); errno != api.OK {
		t.Fatalf("Shrink() = %d, want OK", errno)
	}
	return bytesOf(t, r)
}

// again makes another relay of the bytes of this one.
func again(t *testing.T, r *culvert.Relay) *culvert.Relay {
	t.Helper()
	return opens(t, bytesOf(t, r))
}
