package culvert_test

import (
	"math/rand"
	"strings"
	"sync"
	"testing"

	"culvert/api"
	"culvert/culvert"
)

// Example 1 of the document: its Puts and Answers.
func TestP7Example(t *testing.T) {
	r := culvert.New()
	accepts(t, r, rec(0, "s", 5), 1)
	accepts(t, r, rec(2, "s", 7), 1)
	accepts(t, r, rec(1, "s", 6), 3)
	puts(t, r, `"s" 3 18`)
	answers(t, r, "s", 2)
	puts(t, r, `"s" 3 18`)
	shows(t, r, `0:3[]`+rest+` "s"=3,18,2`)
	answers(t, r, "s", 3)
	puts(t, r, ``)
	answers(t, r, "s", 1)
	puts(t, r, ``)
	denies(t, r, "s", 4, api.ErrHeld)
	shows(t, r, `0:3[]`+rest+` "s"=3,18,3`)
}

// P7: Held becomes the token where that is above it, and stays where it is not; both in every order.
func TestP7HeldOnlyRises(t *testing.T) {
	for before := range 6 {
		for held := range 6 {
			r := culvert.New()
			fill(t, r, "m", 5)
			answers(t, r, "m", before)
			answers(t, r, "m", held)
			s, _ := r.State()
			if want := (api.Key{Name: "m", Count: 5, Fold: 1, Held: max(before, held)}); len(s.Keys) != 1 || s.Keys[0] != want {
				t.Errorf("behind %d and %d the key stands as %+v, want %+v", before, held, s.Keys, want)
			}
		}
	}
}

// P7: a token is from 0 to the count, and the count moves with what is taken, not with what waits.
func TestP7Tokens(t *testing.T) {
	r := culvert.New()
	for count := 1; count <= 20; count++ {
		accepts(t, r, rec(2*count-1, "s", 1), 2*count-2)
		accepts(t, r, rec(2*count-2, "l", 1), 2*count)
		accepts(t, r, rec(2*count+1, "s", 1), 2*count) // waits, and is sent again above
		for _, held := range []int{minInt, -1 << 32, -1, count + 1, count + 2, 1<<32 + count, maxInt} {
			denies(t, r, "s", held, api.ErrHeld)
		}
		answers(t, r, "s", 0)
		answers(t, r, "s", count)
		answers(t, r, "s", count-1)
		for _, held := range []int{minInt, -1, count + 1, maxInt} {
			denies(t, r, "s", held, api.ErrHeld)
		}
		s, _ := r.State()
		if s.Keys[1].Held != count || s.Keys[0].Held != 0 {
			t.Fatalf("with %d held the keys stand as %+v", count, s.Keys)
		}
	}
}

// P7: ErrKey for what is no key, whatever is held of it.
func TestP7NoKeys(t *testing.T) {
	r := culvert.New()
	accepts(t, r, rec(0, "s", 1), 1)
	accepts(t, r, rec(1, "sixbyt", 1), 2)
	for _, key := range []string{
		"", "x", "S", "b", "d", "k", "n", "r", "t", " s", "\x00", "\xff", "1s", "sixbyte", "séééé", strings.Repeat("s", 1<<20),
	} {
		for _, held := range []int{minInt, -1, 0, 1, 2, maxInt} {
			denies(t, r, key, held, api.ErrKey)
		}
	}
}

// P7: ErrNone for a key of which no record was taken, though one may wait.
func TestP7NothingTaken(t *testing.T) {
	r := culvert.New()
	accepts(t, r, rec(2, "m", 1), 0)
	accepts(t, r, in(1, 0, rec(1, "s\x00", 1)), 0)
	accepts(t, r, in(2, 0, rec(0, "s1", 1)), 1)
	for _, key := range []string{"m", "s\x00", "s", "c", "l", "s2", "s11", "sixbyt", "c\xff\xff\xff\xff\xff"} {
		for _, held := range []int{minInt, -1, 0, 1, 2, maxInt} {
			denies(t, r, key, held, api.ErrNone)
		}
	}
	accepts(t, r, in(0, 1, rec(0, "c", 1)), 1) // with the epoch, what waited of m is gone
	denies(t, r, "m", 0, api.ErrNone)
	accepts(t, r, in(1, 0, rec(0, "s1", 1)), 2)
	answers(t, r, "s\x00", 1)
	answers(t, r, "s1", 2)
	puts(t, r, `"c" 1 1`)
}

// P1 and P7: of several errors, the one named first is the answer.
func TestP7FirstErrorIsTheAnswer(t *testing.T) {
	r := culvert.New()
	accepts(t, r, rec(0, "s", 1), 1)
	denies(t, r, "x", -1, api.ErrKey)
	denies(t, r, "m", -1, api.ErrNone)
	denies(t, r, "s", -1, api.ErrHeld)
	r.Close()
	for _, key := range []string{"x", "m", "s"} {
		for _, held := range []int{-1, 0, 1, 2} {
			if errno := r.Answer(key, held); errno != api.ErrClosed {
				t.Errorf("Answer(%q, %d) of a closed relay = %d", key, held, errno)
			}
		}
	}
	if list, errno := r.Puts(); len(list) != 0 || errno != api.ErrClosed {
		t.Errorf("Puts() of a closed relay = %v, %d", list, errno)
	}
}

// P7: an answer is for its key alone, among keys that begin alike.
func TestP7KeysAreApart(t *testing.T) {
	names := []string{"s", "s\x00", "s\x00\x00", "s1"}
	for i, name := range names {
		r := culvert.New()
		for n, key := range names {
			accepts(t, r, rec(2*n, key, 1), 2*n+1)
			accepts(t, r, rec(2*n+1, key, 1), 2*n+2)
		}
		answers(t, r, name, 2)
		s, _ := r.State()
		for j, key := range s.Keys {
			want := 0
			if j == i {
				want = 2
			}
			if key.Held != want {
				t.Errorf("behind an answer for %q, %q has %d held", name, key.Name, key.Held)
			}
		}
	}
}

// P7: Held stays with its key, when others come ahead of it and behind it, more is taken, epochs turn.
func TestP7HeldStays(t *testing.T) {
	r := culvert.New()
	accepts(t, r, rec(0, "m", 3), 1)
	accepts(t, r, rec(1, "m", 2), 2)
	answers(t, r, "m", 2)
	for i, key := range []string{"c", "s", "l", "m", "m"} {
		accepts(t, r, in(1, i/2, rec(i%2, key, 4)), i%2+1)
	}
	accepts(t, r, in(0, 5, rec(0, "m", 1)), 1)
	shows(t, r, `5:1[] 2:1[] 0:0[] 0:0[] "c"=1,1,0 "l"=1,4,0 "m"=5,4,2 "s"=1,4,0`)
	puts(t, r, `"c" 1 1, "l" 1 4, "m" 5 4, "s" 1 4`)
}

// P7: an answer changes Held alone: a key that is held counts among the keys and the records still.
func TestP7HeldKeysAreThere(t *testing.T) {
	r := culvert.New()
	for i, key := range []string{"c", "s", "l", "m"} {
		accepts(t, r, rec(i, key, 1), i+1)
		answers(t, r, key, 1)
	}
	refuses(t, r, rec(4, "m1", 1), api.ErrMany)
	fill(t, r, "s", 996)
	answers(t, r, "s", 997)
	refuses(t, r, rec(4, "s", 1), api.ErrFull)
	shows(t, r, `0:4[] 0:0[] 0:0[] 0:996[] "c"=1,1,1 "l"=1,1,1 "m"=1,1,1 "s"=997,997,997`)
}

// P2: an answer to one relay is none to another.
func TestP7RelaysAreApart(t *testing.T) {
	a, b := waitingEverywhere(t), waitingEverywhere(t)
	answers(t, a, "s", 1)
	shows(t, b, waitingEverywhereShows)
	puts(t, b, `"c" 1 1, "s" 1 5`)
	puts(t, a, `"c" 1 1`)
}

// sink keeps the pair with the greatest token of each key, as P10 has it.
type sink map[string]api.Put

func (s sink) put(p api.Put) {
	if p.Token > s[p.Key].Token {
		s[p.Key] = p
	}
}

// P6 and P7, as they are meant: puts and answers get lost, come late and come twice, and yet the sink
// has what the first so many records of each key come to, and in the end what all do.
func TestP7ASinkThatLosesMuch(t *testing.T) {
	names := []string{"c", "l1", "m", "s"}
	for seed := range int64(20) {
		source := rand.New(rand.NewSource(seed))
		r, kept, values := culvert.New(), sink{}, map[string][]int{}
		var onTheWay []api.Put
		for n := range 150 {
			key, value := names[source.Intn(4)], source.Intn(1<<32)
			accepts(t, r, rec(n, key, value), n+1)
			values[key] = append(values[key], value)
			list, _ := r.Puts()
			onTheWay = append(onTheWay, list...)
			for range source.Intn(4) {
				p := onTheWay[source.Intn(len(onTheWay))]
				kept.put(p)
				if source.Intn(2) == 0 {
					answers(t, r, p.Key, kept[p.Key].Token)
				}
			}
			for _, p := range kept {
				if want := foldAll(p.Key, values[p.Key][:p.Token]); p.Value != want {
					t.Fatalf("seed %d: the sink has %+v, want %d", seed, p, want)
				}
			}
		}
		last, _ := r.Puts()
		for _, p := range last {
			kept.put(p)
			answers(t, r, p.Key, p.Token)
		}
		puts(t, r, ``)
		for key, list := range values {
			if want := (api.Put{Key: key, Token: len(list), Value: foldAll(key, list)}); kept[key] != want {
				t.Errorf("seed %d: the sink has %+v in the end, want %+v", seed, kept[key], want)
			}
		}
	}
}

// Ways, Mutex: many may accept, put and answer at the same time: each put is of one moment.
func TestManySinksOfOneRelay(t *testing.T) {
	r := culvert.New()
	var all sync.WaitGroup
	for session := range 4 {
		all.Go(func() {
			for n := range 250 {
				r.Accept(in(session, 0, rec(n, "s", 3)))
			}
		})
		all.Go(func() {
			for range 500 {
				list, _ := r.Puts()
				for _, p := range list {
					if p.Value != 3*p.Token {
						t.Errorf("%d records of 3 come to %d", p.Token, p.Value)
					}
					if errno := r.Answer(p.Key, p.Token); errno != api.OK {
						t.Errorf("Answer(%q, %d) = %d", p.Key, p.Token, errno)
					}
				}
			}
		})
	}
	all.Wait()
	answers(t, r, "s", 1000)
	puts(t, r, ``)
	shows(t, r, `0:250[] 0:250[] 0:250[] 0:250[] "s"=1000,3000,1000`)
}
