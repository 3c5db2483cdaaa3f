package culvert_test

import (
	"testing"

	"culvert/api"
	"culvert/culvert"
)

// P6: nothing is put of a relay that took nothing, nor of keys that only wait.
func TestP6NothingTaken(t *testing.T) {
	r := culvert.New()
	puts(t, r, ``)
	accepts(t, r, rec(1, "s", 5), 0)
	accepts(t, r, in(2, 3, rec(2, "m", 5)), 0)
	puts(t, r, ``)
	accepts(t, r, rec(0, "l", 7), 2)
	puts(t, r, `"l" 1 7, "s" 1 5`)
}

// P6: the token is the count, and the value the fold, whichever the key's kind; what waits is in neither.
func TestP6TokenAndFold(t *testing.T) {
	for _, x := range []struct{ key, first, second, third string }{
		{"c1", `"c1" 1 1`, `"c1" 2 2`, `"c1" 3 3`},
		{"s", `"s" 1 5`, `"s" 2 14`, `"s" 3 16`},
		{"l", `"l" 1 5`, `"l" 2 9`, `"l" 3 2`},
		{"m", `"m" 1 5`, `"m" 2 9`, `"m" 3 9`},
	} {
		r := culvert.New()
		accepts(t, r, rec(0, x.key, 5), 1)
		puts(t, r, x.first)
		accepts(t, r, rec(2, x.key, 2), 1)
		puts(t, r, x.first)
		accepts(t, r, rec(0, x.key, 77), 1) // again: that changes nothing
		puts(t, r, x.first)
		answers(t, r, x.key, 0)
		puts(t, r, x.first)
		accepts(t, r, rec(1, x.key, 9), 3)
		puts(t, r, x.third)
		other := culvert.New()
		accepts(t, other, rec(0, x.key, 5), 1)
		accepts(t, other, rec(1, x.key, 9), 2)
		puts(t, other, x.second)
	}
}

// P6: values at their edges: a fold of 0 is put as well, and a sum that went round.
func TestP6Values(t *testing.T) {
	r := culvert.New()
	for i, key := range []string{"s", "l", "m", "c"} {
		accepts(t, r, rec(i, key, 0), i+1)
	}
	puts(t, r, `"c" 1 1, "l" 1 0, "m" 1 0, "s" 1 0`)
	for i, key := range []string{"s", "l", "m", "c"} {
		accepts(t, r, rec(i+4, key, maxValue), i+5)
	}
	puts(t, r, `"c" 2 2, "l" 2 4294967295, "m" 2 4294967295, "s" 2 4294967295`)
	accepts(t, r, rec(8, "s", 3), 9)
	answers(t, r, "m", 2)
	puts(t, r, `"c" 2 2, "l" 2 4294967295, "s" 3 2`)
}

// P6: a key is put as long as its count is above Held: one above is enough, and none is too few.
func TestP6UntilHeld(t *testing.T) {
	r := culvert.New()
	fill(t, r, "s", 1000)
	for _, held := range []int{0, 1, 500, 998, 999} {
		answers(t, r, "s", held)
		puts(t, r, `"s" 1000 1000`)
	}
	answers(t, r, "s", 1000)
	puts(t, r, ``)
}

// P6: a key that is held is put again when one more of it is taken, with its whole fold.
func TestP6HeldKeysComeAgain(t *testing.T) {
	r := culvert.New()
	for n := range 5 {
		accepts(t, r, in(1, 0, rec(2*n, "s", 10)), 2*n+1)
		accepts(t, r, in(1, 0, rec(2*n+1, "l", n)), 2*n+2)
		puts(t, r, putsText([]api.Put{{Key: "l", Token: n + 1, Value: n}, {Key: "s", Token: n + 1, Value: 10 * (n + 1)}}))
		answers(t, r, "s", n+1)
		answers(t, r, "l", n+1)
		puts(t, r, ``)
	}
}

// P6: keys are ordered byte by byte, a byte from 0 to 255, the shorter one first; and those that are
// held leave the others in order.
func TestP6KeysInOrder(t *testing.T) {
	for _, names := range [][]string{
		{"c", "l", "m", "s"},
		{"s", "s\x00", "s\x00\x00", "s\x01"},
		{"s\x7f", "s\x80", "s\xc3\xa9", "s\xff"},
		{"sA", "sB", "sa", "sb"},
		{"c\xff", "l", "lz", "m\x00"},
	} {
		for held := range 16 {
			r := culvert.New()
			for i := range names {
				accepts(t, r, rec(i, names[(i*3+held)%4], 1), i+1)
			}
			var want []api.Put
			for i, name := range names {
				if held>>i&1 == 1 {
					answers(t, r, name, 1)
				} else {
					want = append(want, api.Put{Key: name, Token: 1, Value: 1})
				}
			}
			puts(t, r, putsText(want))
		}
	}
}

// P6: a key is put until the sink says that it is held: to put it is not enough, and changes nothing.
func TestP6PuttingChangesNothing(t *testing.T) {
	r := waitingEverywhere(t)
	for range 10 {
		puts(t, r, `"c" 1 1, "s" 1 5`)
	}
	shows(t, r, waitingEverywhereShows)
	accepts(t, r, rec(1, "s", 1), 4)
	puts(t, r, `"c" 1 1, "s" 4 19`)
}

// P6: a later epoch takes nothing back that was taken: its records count on.
func TestP6EpochsGoOn(t *testing.T) {
	r := culvert.New()
	accepts(t, r, rec(0, "s", 5), 1)
	accepts(t, r, rec(2, "s", 7), 1)
	accepts(t, r, in(0, 1, rec(0, "s", 9)), 1)
	puts(t, r, `"s" 2 14`)
	answers(t, r, "s", 2)
	accepts(t, r, in(0, 2, rec(1, "s", 1)), 0)
	puts(t, r, ``)
}

// P2: the lists of Puts are new memory: writing into one shows neither in the relay nor in another one.
func TestP2PutsAreNewMemory(t *testing.T) {
	r := waitingEverywhere(t)
	first, _ := r.Puts()
	second, _ := r.Puts()
	for i := range first {
		first[i] = api.Put{Key: "m", Token: 77, Value: 77}
	}
	for range 4 {
		first = append(first, api.Put{Key: "m", Token: 77, Value: 77})
	}
	if got := putsText(second); got != `"c" 1 1, "s" 1 5` {
		t.Errorf("another answer is now %s", got)
	}
	puts(t, r, `"c" 1 1, "s" 1 5`)
	shows(t, r, waitingEverywhereShows)
}

// P2: what the relay does later does not show in a list that Puts gave.
func TestP2PutsStayAsGiven(t *testing.T) {
	r := waitingEverywhere(t)
	given, _ := r.Puts()
	accepts(t, r, rec(1, "s", 1), 4)
	accepts(t, r, in(2, 0, rec(0, "c0", 1)), 1)
	answers(t, r, "c", 1)
	answers(t, r, "s", 4)
	r.Puts()
	r.Close()
	if got := putsText(given); got != `"c" 1 1, "s" 1 5` {
		t.Errorf("the list is now %s", got)
	}
}
