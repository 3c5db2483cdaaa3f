package culvert_test

import (
	"testing"

	"culvert/api"
	"culvert/culvert"
)

// P5: the numbers of those that wait rise, whatever order they came in.
func TestP5WaitingRises(t *testing.T) {
	for _, order := range [][]int{{1, 2, 3}, {1, 3, 2}, {2, 1, 3}, {2, 3, 1}, {3, 1, 2}, {3, 2, 1}} {
		r := culvert.New()
		for _, n := range order {
			accepts(t, r, in(2, 0, rec(n, "s", 1)), 0)
		}
		shows(t, r, "0:0[] 0:0[] 0:0[1 2 3] 0:0[]")
	}
}

// P5: keys are ordered byte by byte, a byte from 0 to 255, the shorter one first.
func TestP5KeysInOrder(t *testing.T) {
	for _, names := range [][]string{
		{"c", "l", "m", "s"},
		{"s", "s\x00", "s\x00\x00", "s\x01"},
		{"s\x7f", "s\x80", "s\xc3\xa9", "s\xff"},
		{"sA", "sB", "sa", "sb"},
		{"s1", "s10", "s2", "s9"},
		{"c\xff", "l", "lz", "m\x00"},
	} {
		for turn := range names {
			r := culvert.New()
			for i := range names {
				accepts(t, r, rec(i, names[(i*3+turn)%4], 1), i+1)
			}
			s, _ := r.State()
			if len(s.Keys) != 4 {
				t.Fatalf("keys: %+v", s.Keys)
			}
			for i, name := range names {
				if s.Keys[i].Name != name {
					t.Errorf("key %d is %q, want %q", i, s.Keys[i].Name, name)
				}
			}
		}
	}
}

// P5: a key that only waits is not told; all four sessions always are.
func TestP5OnlyTakenKeys(t *testing.T) {
	r := culvert.New()
	accepts(t, r, rec(1, "s", 1), 0)
	accepts(t, r, in(1, 0, rec(0, "l", 4)), 1)
	accepts(t, r, in(3, 2, rec(2, "c", 1)), 0)
	shows(t, r, `0:0[1] 0:1[] 0:0[] 2:0[2] "l"=1,4,0`)
	s, errno := r.State()
	if len(s.Sessions) != api.MaxSessions || errno != api.OK {
		t.Errorf("State() tells %d sessions, %d", len(s.Sessions), errno)
	}
}

// P5: to ask changes nothing.
func TestP5AskingChangesNothing(t *testing.T) {
	asked, left := waitingEverywhere(t), waitingEverywhere(t)
	for range 10 {
		shows(t, asked, waitingEverywhereShows)
	}
	for _, r := range []*culvert.Relay{asked, left} {
		accepts(t, r, rec(1, "s", 1), 4)
		accepts(t, r, in(1, 0, rec(1, "c", 1)), 3)
		shows(t, r, `0:4[] 0:3[] 0:0[] 0:0[] "c"=3,3,0 "s"=4,19,0`)
	}
}
