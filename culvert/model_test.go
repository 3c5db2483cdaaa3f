package culvert_test

import (
	"math/rand"
	"slices"
	"strings"
	"testing"

	"culvert/api"
	"culvert/culvert"
)

// model is the document's words, done in the slowest way: it has the whole list of what was taken,
// and folds it each time that it is asked.
type model struct {
	epoch, base [4]int
	waits       []api.Record
	taken       []api.Record
	answered    []api.Put // each answer with OK: a key and a token
}

func (m *model) clone() *model {
	c := *m
	c.waits, c.taken, c.answered = slices.Clone(m.waits), slices.Clone(m.taken), slices.Clone(m.answered)
	return &c
}

func (m *model) accept(x api.Record) (int, api.Errno) {
	if x.Session < 0 || x.Session > 3 {
		return 0, api.ErrSession
	}
	if !isKeyByTheWords(x.Key) || x.Value < 0 || x.Value > maxValue {
		return 0, api.ErrKey
	}
	epoch, base, waits := m.epoch[x.Session], m.base[x.Session], slices.Clone(m.waits)
	if x.Epoch < epoch {
		return 0, api.ErrEpoch
	}
	if x.Epoch > epoch {
		epoch, base = x.Epoch, 0
		waits = slices.DeleteFunc(waits, func(w api.Record) bool { return w.Session == x.Session })
	}
	if x.Number < 0 || x.Number >= base+4 {
		return 0, api.ErrFar
	}
	again := slices.ContainsFunc(waits, func(w api.Record) bool { return w.Session == x.Session && w.Number == x.Number })
	if x.Number < base || again {
		return base, api.OK
	}
	there := map[string]int{}
	for _, list := range [][]api.Record{m.taken, waits} {
		for _, w := range list {
			there[w.Key]++
		}
	}
	if there[x.Key] == 0 && len(there) >= 4 {
		return 0, api.ErrMany
	}
	if len(m.taken)+len(waits) >= 1000 {
		return 0, api.ErrFull
	}
	m.epoch[x.Session], m.base[x.Session], m.waits = epoch, base, append(waits, x)
	m.drain(x.Session)
	return m.base[x.Session], api.OK
}

func (m *model) drain(session int) {
	for {
		i := slices.IndexFunc(m.waits, func(w api.Record) bool { return w.Session == session && w.Number == m.base[session] })
		if i < 0 {
			return
		}
		m.taken = append(m.taken, m.waits[i])
		m.waits = slices.Delete(m.waits, i, i+1)
		m.base[session]++
	}
}

func (m *model) state() api.State {
	var s api.State
	for i := range 4 {
		var waiting []int
		for _, w := range m.waits {
			if w.Session == i {
				waiting = append(waiting, w.Number)
			}
		}
		slices.Sort(waiting)
		s.Sessions = append(s.Sessions, api.Session{Epoch: m.epoch[i], Base: m.base[i], Waiting: waiting})
	}
	values := map[string][]int{}
	for _, x := range m.taken {
		values[x.Key] = append(values[x.Key], x.Value)
	}
	for name, list := range values {
		s.Keys = append(s.Keys, api.Key{Name: name, Count: len(list), Fold: foldAll(name, list), Held: m.held(name)})
	}
	slices.SortFunc(s.Keys, func(a, b api.Key) int { return slices.Compare([]byte(a.Name), []byte(b.Name)) })
	return s
}

// held is the greatest token that was ever answered.
func (m *model) held(name string) int {
	held := 0
	for _, a := range m.answered {
		if a.Key == name && a.Token > held {
			held = a.Token
		}
	}
	return held
}

func (m *model) puts() []api.Put {
	var puts []api.Put
	for _, k := range m.state().Keys {
		if k.Count > k.Held {
			puts = append(puts, api.Put{Key: k.Name, Token: k.Count, Value: k.Fold})
		}
	}
	return puts
}

func (m *model) answer(name string, held int) api.Errno {
	if !isKeyByTheWords(name) {
		return api.ErrKey
	}
	count := 0
	for _, x := range m.taken {
		if x.Key == name {
			count++
		}
	}
	if count == 0 {
		return api.ErrNone
	}
	if held < 0 || held > count {
		return api.ErrHeld
	}
	m.answered = append(m.answered, api.Put{Key: name, Token: held})
	return api.OK
}

func isKeyByTheWords(name string) bool {
	return len(name) >= 1 && len(name) <= 6 && strings.Contains("cslm", name[:1])
}

func foldAll(name string, values []int) int {
	sum := 0
	for _, v := range values {
		sum = (sum + v) % (maxValue + 1)
	}
	return map[byte]int{'c': len(values), 's': sum, 'l': values[len(values)-1], 'm': slices.Max(values)}[name[0]]
}

// sameAccept sends one record to both, and holds what they answer, and how they stand, together.
func sameAccept(t *testing.T, r *culvert.Relay, m *model, x api.Record) {
	t.Helper()
	wantBase, wantErrno := m.accept(x)
	kept := bytesOf(t, r)
	base, errno := r.Accept(x)
	if base != wantBase || errno != wantErrno {
		t.Fatalf("Accept(%s) = %d, %d, want %d, %d", tell(x), base, errno, wantBase, wantErrno)
	}
	grows(t, r, kept, errno)
	sameStand(t, r, m, x)
}

// sameAnswer tells both what the sink holds, and does likewise.
func sameAnswer(t *testing.T, r *culvert.Relay, m *model, key string, held int) {
	t.Helper()
	want := m.answer(key, held)
	kept := bytesOf(t, r)
	errno := r.Answer(key, held)
	if errno != want {
		t.Fatalf("Answer(%.20q, %d) = %d, want %d", key, held, errno, want)
	}
	grows(t, r, kept, errno)
	sameStand(t, r, m, api.Put{Key: key, Token: held})
}

// grows sees that the bytes have at most something behind them, and nothing with an error (P1, P8).
func grows(t *testing.T, r *culvert.Relay, kept string, errno api.Errno) {
	t.Helper()
	now := bytesOf(t, r)
	if !strings.HasPrefix(now, kept) || errno != api.OK && now != kept {
		t.Fatalf("behind a call that answers %d the bytes are %q, were %q", errno, now, kept)
	}
}

// sameStand holds how both stand together, behind what was sent.
func sameStand(t *testing.T, r *culvert.Relay, m *model, sent any) {
	t.Helper()
	if got, want := stateOf(t, r), text(m.state()); got != want {
		t.Fatalf("behind %+v: State() = %s\nwant %s", sent, got, want)
	}
	if got, want := putsOf(t, r), putsText(m.puts()); got != want {
		t.Fatalf("behind %+v: Puts() = %s\nwant %s", sent, got, want)
	}
}

// pick gives an ordinary thing mostly, and an odd one at times.
func pick[T any](source *rand.Rand, ordinary T, odd ...T) T {
	if source.Intn(40) > 0 {
		return ordinary
	}
	return odd[source.Intn(len(odd))]
}

// P4 to P8, with long runs of records from a seeded source: near the base, again, of late epochs,
// of more keys than four, of more records than 1000, and of all that is wrong; and between them answers,
// of tokens at, below and above what is held, and above the count.
func TestP4ToP8AgainstTheWords(t *testing.T) {
	for seed := range int64(12) {
		source := rand.New(rand.NewSource(seed))
		r, m := culvert.New(), &model{}
		keys := 2 + int(seed)%7
		for range 2250 {
			sameCall(t, source, r, m, keys)
		}
	}
}

// sameCall does one thing to both: what the source picks.
func sameCall(t *testing.T, source *rand.Rand, r *culvert.Relay, m *model, keys int) {
	t.Helper()
	if source.Intn(5) > 0 {
		sameAccept(t, r, m, anyRecord(source, m, keys))
		return
	}
	key := anyKey(source, keys)
	sameAnswer(t, r, m, key, anyToken(source, m, key))
}

// anyRecord is mostly one that is near the base of its session, of so many keys.
func anyRecord(source *rand.Rand, m *model, keys int) api.Record {
	session := source.Intn(4)
	x := api.Record{
		Session: pick(source, session, -1, 4, minInt, maxInt),
		Epoch:   m.epoch[session],
		Number:  pick(source, m.base[session]+source.Intn(5)-1, -1, minInt, maxInt, 0, m.base[session]+4),
		Key:     anyKey(source, keys),
		Value:   pick(source, source.Intn(10), 0, -1, maxValue, maxValue+1, minInt, maxInt),
	}
	if source.Intn(60) == 0 {
		x.Epoch += source.Intn(4) - 1
		x.Number = source.Intn(5)
	}
	return x
}

func anyKey(source *rand.Rand, keys int) string {
	names := []string{"c", "s", "l", "m", "s\x00", "s\xff", "l12345", "c1"}
	return pick(source, names[source.Intn(keys)], "", "x", "sevenby", names[7])
}

// anyToken is mostly one that the sink can hold: near Held, or near the count.
func anyToken(source *rand.Rand, m *model, name string) int {
	count := 0
	for _, k := range m.state().Keys {
		if k.Name == name {
			count = k.Count
		}
	}
	near := m.held(name)
	if source.Intn(4) == 0 {
		near = count
	}
	return pick(source, near+source.Intn(4)-1, 0, -1, count, count+1, minInt, maxInt)
}

// P1 and P4: every mixture of right and wrong, against the words.
func TestP1P4EveryMixture(t *testing.T) {
	r, m := culvert.New(), &model{}
	for n, key := range []string{"s", "l", "m"} {
		sameAccept(t, r, m, in(2, 1, rec(n, key, 3)))
	}
	sameAccept(t, r, m, in(2, 1, rec(5, "s", 3)))
	for _, epoch := range []int{minInt, -1, 0, 1, 2, maxInt} {
		for _, session := range []int{minInt, -1, 0, 2, 3, 4, maxInt} {
			for _, key := range []string{"", "x", "s", "c", "m1", "sevenby"} {
				for _, number := range []int{minInt, -1, 5, 4, 0, 3, 2, 1, maxInt} {
					for _, value := range []int{minInt, -1, maxValue + 1, 0, maxValue} {
						sameAccept(t, r, m, api.Record{Session: session, Epoch: epoch, Number: number, Key: key, Value: value})
					}
				}
			}
		}
	}
}
