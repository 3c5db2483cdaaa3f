package culvert_test

import (
	"slices"
	"sync"
	"testing"

	"culvert/api"
	"culvert/culvert"
)

// waitingEverywhere is a relay with records that wait in two sessions, and two keys.
func waitingEverywhere(t *testing.T) *culvert.Relay {
	t.Helper()
	r := culvert.New()
	accepts(t, r, rec(0, "s", 5), 1)
	accepts(t, r, rec(3, "s", 6), 1)
	accepts(t, r, rec(2, "s", 7), 1)
	accepts(t, r, in(1, 0, rec(0, "c", 8)), 1)
	accepts(t, r, in(1, 0, rec(2, "c", 8)), 1)
	return r
}

const waitingEverywhereShows = `0:1[2 3] 0:1[2] 0:0[] 0:0[] "c"=1,1,0 "s"=1,5,0`

// P2: writing into an answer's lists changes neither the relay nor another answer.
func TestP2AnswersAreNewMemory(t *testing.T) {
	r := waitingEverywhere(t)
	first, _ := r.State()
	second, _ := r.State()
	for i := range first.Sessions {
		for j := range first.Sessions[i].Waiting {
			first.Sessions[i].Waiting[j] = 77
		}
		first.Sessions[i].Base = 77
		first.Sessions[i].Epoch = 77
	}
	for i := range first.Keys {
		first.Keys[i] = api.Key{Name: "m", Count: 77, Fold: 77, Held: 77}
	}
	if got := text(second); got != waitingEverywhereShows {
		t.Errorf("another answer is now %s", got)
	}
	shows(t, r, waitingEverywhereShows)
	accepts(t, r, rec(1, "s", 1), 4)
	shows(t, r, `0:4[] 0:1[2] 0:0[] 0:0[] "c"=1,1,0 "s"=4,19,0`)
}

// P2: what the relay does later does not show in an answer that it gave.
func TestP2AnswersStayAsGiven(t *testing.T) {
	r := waitingEverywhere(t)
	s, _ := r.State()
	accepts(t, r, rec(1, "s", 1), 4)
	accepts(t, r, in(1, 5, rec(1, "c", 1)), 0)
	accepts(t, r, in(2, 0, rec(0, "c0", 1)), 1)
	r.Close()
	if got := text(s); got != waitingEverywhereShows {
		t.Errorf("the answer is now %s", got)
	}
}

// P2: no two lists of one answer share memory, not even behind their ends.
func TestP2ListsOfOneAnswerAreApart(t *testing.T) {
	r := waitingEverywhere(t)
	s, _ := r.State()
	for i := range s.Sessions {
		w := s.Sessions[i].Waiting
		for range 4 {
			w = append(w, 77)
		}
	}
	if got := text(s); got != waitingEverywhereShows {
		t.Errorf("appending to one list made it %s", got)
	}
}

// P2: relays know nothing of one another.
func TestP2RelaysAreApart(t *testing.T) {
	a, b := culvert.New(), culvert.New()
	if a == b {
		t.Fatal("New gave the same relay twice")
	}
	accepts(t, a, rec(0, "s", 5), 1)
	accepts(t, a, rec(2, "s", 5), 1)
	shows(t, b, "0:0[]"+rest)
	accepts(t, b, in(0, 3, rec(0, "l", 9)), 1)
	fill(t, b, "s", 999)
	refuses(t, b, in(0, 3, rec(1, "l", 9)), api.ErrFull)
	shows(t, a, `0:1[2]`+rest+` "s"=1,5,0`)
	accepts(t, a, rec(1, "s", 5), 3)
	b.Close()
	shows(t, a, `0:3[]`+rest+` "s"=3,15,0`)
}

// P2: the same calls have the same answers, on every relay that they are made on.
func TestP2SameCallsSameAnswers(t *testing.T) {
	run := func() []string {
		r := culvert.New()
		var told []string
		for i := range 300 {
			r.Accept(in(i%4, i/90, rec((i*7)%90/4, []string{"s", "l", "m1", "c", "c1"}[i%5], i)))
			if i%50 == 49 {
				r.Shrink()
			}
			told = append(told, stateOf(t, r), putsOf(t, r), bytesOf(t, r))
		}
		return told
	}
	first := run()
	for range 20 {
		if !slices.Equal(first, run()) {
			t.Fatal("the same calls had other answers")
		}
	}
}

// Ways, Mutex: many may call one relay; each session's records are sent thrice, by three senders.
func TestManyCallersOfOneRelay(t *testing.T) {
	r := culvert.New()
	var senders sync.WaitGroup
	for sender := range 12 {
		senders.Go(func() {
			for n := 0; n < 250; {
				base, errno := r.Accept(in(sender%4, 0, rec(n, "s", n)))
				if errno != api.OK {
					t.Errorf("sender %d, number %d: %d", sender, n, errno)
					return
				}
				n = base
				r.State()
			}
		})
	}
	senders.Wait()
	shows(t, r, `0:250[] 0:250[] 0:250[] 0:250[] "s"=1000,124500,0`)
}

// Ways, Mutex: the bytes are whole whenever they are asked for, whoever else calls.
func TestManyCallersOfOneRelaysBytes(t *testing.T) {
	r := culvert.New()
	var callers sync.WaitGroup
	for caller := range 8 {
		callers.Go(func() {
			for n := range 100 {
				if base, errno := r.Accept(in(caller%4, 0, rec(n, "s", 1))); base <= n || errno != api.OK {
					t.Errorf("caller %d, number %d: %d, %d", caller, n, base, errno)
				}
				if n%10 == caller {
					r.Shrink()
				}
				r.Answer("s", n)
				kept, _ := r.Bytes()
				q, errno := culvert.Open(kept)
				if errno != api.OK {
					t.Errorf("Open(%q) = %d", kept, errno)
					return
				}
				if s, _ := q.State(); s.Sessions[caller%4].Base <= n {
					t.Errorf("number %d of session %d was answered, but is not kept", n, caller%4)
				}
			}
		})
	}
	callers.Wait()
	shows(t, again(t, r), `0:100[] 0:100[] 0:100[] 0:100[] "s"=400,400,99`)
}

// Ways, Once: of many who close a relay at the same time, one is told that it did.
func TestManyClosersOfOneRelay(t *testing.T) {
	r := culvert.New()
	answers := make([]api.Errno, 32)
	var closers sync.WaitGroup
	for i := range answers {
		closers.Go(func() { answers[i] = r.Close() })
	}
	closers.Wait()
	slices.Sort(answers)
	if answers[0] != api.OK || answers[1] != api.ErrClosed || answers[31] != api.ErrClosed {
		t.Errorf("32 closers were told %v", answers)
	}
}
