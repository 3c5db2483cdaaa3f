package culvert_test

import (
	"math/rand"
	"testing"

	"culvert/api"
	"culvert/culvert"
)

// perEpoch is how many records a producer has in each epoch.
const perEpoch = 30

// produced is a record of a producer: the same one each time that it is sent.
func produced(session, epoch, number int) api.Record {
	mix := session*7919 + epoch*104729 + number*31
	return in(session, epoch, rec(number, []string{"c", "s", "l", "m"}[mix%13%4], mix*2654435761%(maxValue+1)))
}

// world is a relay between producers and a sink, with all that gets lost between them.
type world struct {
	t           *testing.T
	source      *rand.Rand
	relay       *culvert.Relay
	epoch, base [4]int             // as the relay answered
	taken       []api.Record       // in order, as the bases say
	flying      []api.Put          // on their way to the sink
	sink        map[string]api.Put // of each key the pair with the greatest token
}

func newWorld(t *testing.T, seed int64) *world {
	return &world{t: t, source: rand.New(rand.NewSource(seed)), relay: culvert.New(), sink: map[string]api.Put{}}
}

// send sends a record and writes down what was taken, by nothing but the answer.
func (w *world) send(x api.Record) {
	base, errno := w.relay.Accept(x)
	if errno != api.OK {
		return
	}
	if x.Epoch > w.epoch[x.Session] {
		w.epoch[x.Session], w.base[x.Session] = x.Epoch, 0
	}
	for ; w.base[x.Session] < base; w.base[x.Session]++ {
		w.taken = append(w.taken, produced(x.Session, x.Epoch, w.base[x.Session]))
	}
}

// sendAny sends one of a producer's records: near those that are missing, or any, of an epoch that is over, or of the next.
func (w *world) sendAny() {
	session := w.source.Intn(4)
	number := min(w.base[session]+w.source.Intn(4), perEpoch-1)
	if w.source.Intn(3) == 0 {
		number = w.source.Intn(perEpoch)
	}
	epoch := w.epoch[session]
	if w.source.Intn(50) == 0 {
		epoch = max(0, min(epoch+w.source.Intn(3)-1, 3))
	}
	w.send(produced(session, epoch, number))
}

// put has the relay tell its puts, of which each may be lost at once.
func (w *world) put() {
	puts, _ := w.relay.Puts()
	for _, p := range puts {
		if w.source.Intn(2) == 0 {
			w.flying = append(w.flying, p)
		}
	}
}

// deliver brings some put to the sink: an old one or a new one; it may come again.
func (w *world) deliver() {
	if len(w.flying) > 0 {
		w.arrive(w.flying[w.source.Intn(len(w.flying))])
	}
}

func (w *world) arrive(p api.Put) {
	if p.Token > w.sink[p.Key].Token {
		w.sink[p.Key] = p
	}
}

// answer tells the relay what the sink holds of some keys.
func (w *world) answer() {
	for _, key := range []string{"c", "s", "l", "m"} {
		if p, held := w.sink[key]; held && w.source.Intn(2) == 0 {
			answers(w.t, w.relay, key, p.Token)
		}
	}
}

// crash leaves nothing of the relay but its bytes.
func (w *world) crash() {
	bytes := bytesOf(w.t, w.relay)
	w.relay.Close()
	w.relay = opens(w.t, bytes)
}

// first are the values of so many records of a key, the first that were taken.
func (w *world) first(key string, count int) []int {
	var values []int
	for _, x := range w.taken {
		if x.Key == key && len(values) < count {
			values = append(values, x.Value)
		}
	}
	return values
}

// check holds the relay and the sink against what was taken.
func (w *world) check() {
	w.t.Helper()
	s, _ := w.relay.State()
	count := 0
	for _, key := range s.Keys {
		count += key.Count
		all := w.first(key.Name, len(w.taken))
		if len(all) != key.Count || foldAll(key.Name, all) != key.Fold {
			w.t.Fatalf("key %q is %+v, but %v was taken of it", key.Name, key, all)
		}
	}
	if count != len(w.taken) {
		w.t.Fatalf("the keys count %d, but %d were taken", count, len(w.taken))
	}
	for key, p := range w.sink {
		some := w.first(key, p.Token)
		if len(some) != p.Token || foldAll(key, some) != p.Value {
			w.t.Fatalf("the sink has %+v, but %v was taken first", p, some)
		}
	}
}

// finish has each producer send all of its last epoch, and the last puts come to the sink, and its answers back.
func (w *world) finish() {
	w.t.Helper()
	for session := range 4 {
		for number := range perEpoch {
			w.send(produced(session, w.epoch[session], number))
		}
		if w.base[session] != perEpoch {
			w.t.Fatalf("session %d has the base %d in the end", session, w.base[session])
		}
	}
	last, _ := w.relay.Puts()
	for _, p := range last {
		w.arrive(p)
	}
	w.check()
	for key, p := range w.sink {
		if all := w.first(key, len(w.taken)); p.Token != len(all) || p.Value != foldAll(key, all) {
			w.t.Errorf("the sink has %+v in the end, of %d", p, len(all))
		}
		answers(w.t, w.relay, key, p.Token)
	}
	puts(w.t, w.relay, "")
}

// P10: whatever is sent again and in whatever order, whatever is lost, and however often nothing but the bytes is
// left: each record of an epoch counts once and in order, and the sink has the fold of the first so many, then of all.
func TestP10WhatFollows(t *testing.T) {
	for seed := range int64(30) {
		w := newWorld(t, seed)
		for range 1500 {
			switch w.source.Intn(20) {
			case 0, 1:
				w.put()
			case 2, 3, 4:
				w.deliver()
			case 5:
				w.answer()
			case 6:
				w.crash()
			case 7:
				w.relay.Shrink()
			default:
				w.sendAny()
			}
			w.check()
		}
		w.finish()
	}
}

// P10: every order of sending the first four records of a session, each of them twice, takes each once and in order.
func TestP10EveryOrder(t *testing.T) {
	order := []int{0, 1, 2, 3}
	var permute func(at int)
	permute = func(at int) {
		if at == len(order) {
			sendsInOrder(t, order)
			return
		}
		for i := at; i < len(order); i++ {
			order[at], order[i] = order[i], order[at]
			permute(at + 1)
			order[at], order[i] = order[i], order[at]
		}
	}
	permute(0)
}

func sendsInOrder(t *testing.T, order []int) {
	t.Helper()
	r := culvert.New()
	for _, number := range order {
		for range 2 {
			r.Accept(rec(number, "l", 10+number))
			r.Accept(in(1, 0, rec(number, "s", 1<<number)))
			r = again(t, r)
		}
	}
	shows(t, r, `0:4[] 0:4[] 0:0[] 0:0[] "l"=4,13,0 "s"=4,15,0`)
}

// P10: a put that comes late, behind a newer one, takes nothing back; those that are lost are not missed.
func TestP10LatePuts(t *testing.T) {
	w := newWorld(t, 0)
	var all []api.Put
	for number := range 20 {
		w.relay.Accept(rec(number, "s", number))
		w.taken = append(w.taken, rec(number, "s", number))
		puts, _ := w.relay.Puts()
		all = append(all, puts...)
	}
	for _, i := range []int{4, 2, 9, 3, 0, 9, 15, 14} {
		w.arrive(all[i])
		w.check()
	}
	if got := w.sink["s"]; got.Token != 16 || got.Value != 120 {
		t.Errorf("the sink has %+v", got)
	}
	w.arrive(all[19])
	if got := w.sink["s"]; got.Token != 20 || got.Value != 190 {
		t.Errorf("the sink has %+v in the end", got)
	}
}
