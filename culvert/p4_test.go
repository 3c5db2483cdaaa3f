package culvert_test

import (
	"strings"
	"testing"

	"culvert/api"
	"culvert/culvert"
)

// Examples 1 (its Accepts and its State) and 2 of the document.
func TestP4Examples(t *testing.T) {
	r := culvert.New()
	sent := []api.Record{rec(0, "s", 5), rec(2, "s", 7), rec(1, "s", 6)}
	for i, base := range []int{1, 1, 3} {
		accepts(t, r, sent[i], base)
	}
	for _, x := range sent {
		accepts(t, r, x, 3)
	}
	shows(t, r, `0:3[]`+rest+` "s"=3,18,0`)
	refuses(t, r, rec(7, "s", 1), api.ErrFar)
	accepts(t, r, in(0, 1, rec(0, "s", 9)), 1)
	refuses(t, r, rec(3, "s", 1), api.ErrEpoch)
	shows(t, r, `1:1[]`+rest+` "s"=4,27,0`)
}

// P4: sessions are 0 to 3, and each counts for itself.
func TestP4Sessions(t *testing.T) {
	r := culvert.New()
	for _, session := range []int{minInt, -1, 4, 5, maxInt} {
		refuses(t, r, in(session, 0, rec(0, "s", 1)), api.ErrSession)
	}
	for session := range 4 {
		accepts(t, r, in(session, session, rec(1, "s", 1)), 0)
		accepts(t, r, in(session, session, rec(0, "s", 1)), 2)
	}
	accepts(t, r, in(2, 2, rec(4, "s", 1)), 2)
	shows(t, r, `0:2[] 1:2[] 2:2[4] 3:2[] "s"=8,8,0`)
}

// P4: a key is 1 to 6 bytes behind one of four letters, and any bytes will do there.
func TestP4Keys(t *testing.T) {
	for _, key := range []string{
		"", "x", "S", "C", "L", "M", "b", "d", "k", "n", "r", "t", " s", "\x00", "\xff", "0", "1c", "sevenby", "cslmcsl", "séééé", "séé€", "m\x00\x00\x00\x00\x00\x00", strings.Repeat("l", 1<<20),
	} {
		r := culvert.New()
		refuses(t, r, rec(0, key, 1), api.ErrKey)
		refuses(t, r, rec(1, key, 1), api.ErrKey)
		refuses(t, r, in(0, 9, rec(0, key, 1)), api.ErrKey)
	}
	for _, key := range []string{
		"c", "s", "l", "m", "c1", "s\x00", "l\xff\xfe", "m     ", "sixbyt", "sé€", "cc\"\\\n\x00", "l\xff\xff\xff\xff\xff", "m\x00\x00\x00\x00\x00",
	} {
		r := culvert.New()
		accepts(t, r, rec(0, key, 1), 1)
		s, _ := r.State()
		if len(s.Keys) != 1 || s.Keys[0] != (api.Key{Name: key, Count: 1, Fold: 1}) {
			t.Errorf("the key %q stands as %+v", key, s.Keys)
		}
	}
}

// P4: values are 0 to 4294967295.
func TestP4Values(t *testing.T) {
	r := culvert.New()
	for _, value := range []int{minInt, -1 << 32, -1, maxValue + 1, 1 << 33, maxInt} {
		for _, key := range []string{"c", "s", "l", "m"} {
			refuses(t, r, rec(0, key, value), api.ErrKey)
		}
	}
	for i, value := range []int{0, 1, 1 << 31, maxValue - 1, maxValue} {
		accepts(t, r, rec(i, "l", value), i+1)
		s, _ := r.State()
		if s.Keys[0].Fold != value {
			t.Errorf("the last value is %d, want %d", s.Keys[0].Fold, value)
		}
	}
}

// Example 3 of the document, and the folds at their edges.
func TestP4Folds(t *testing.T) {
	for _, x := range []struct {
		key    string
		values []int
		fold   int
	}{
		{"c1", []int{5, 9, 2}, 3}, {"l", []int{5, 9, 2}, 2}, {"m", []int{5, 9, 2}, 9}, {"s", []int{5, 9, 2}, 16},
		{"c", []int{0}, 1}, {"c", []int{maxValue, maxValue}, 2},
		{"s", []int{0, 0}, 0}, {"s", []int{maxValue}, maxValue}, {"s", []int{maxValue, 1}, 0}, {"s", []int{maxValue, maxValue}, maxValue - 1}, {"s", []int{1 << 31, 1 << 31, 3}, 3}, {"s", []int{maxValue, maxValue, maxValue, 7}, 4},
		{"l", []int{maxValue, 0}, 0}, {"l", []int{0, maxValue}, maxValue},
		{"m", []int{0, 0}, 0}, {"m", []int{maxValue, 0}, maxValue}, {"m", []int{1, 1 << 31, 1<<31 - 1}, 1 << 31}, {"m", []int{2, 3}, 3},
		{"sclm", []int{4, 3}, 7}, {"cslm", []int{4, 3}, 2}, {"mcsl", []int{4, 3}, 4}, {"lmcs", []int{4, 3}, 3},
	} {
		r := culvert.New()
		for i, value := range x.values {
			accepts(t, r, rec(i, x.key, value), i+1)
		}
		s, _ := r.State()
		if want := (api.Key{Name: x.key, Count: len(x.values), Fold: x.fold}); len(s.Keys) != 1 || s.Keys[0] != want {
			t.Errorf("%q of %v stands as %+v, want %+v", x.key, x.values, s.Keys, want)
		}
	}
}

// P4: a later epoch begins anew, from whatever number below the window; an earlier one is over.
func TestP4Epochs(t *testing.T) {
	r := culvert.New()
	refuses(t, r, in(0, -1, rec(0, "s", 1)), api.ErrEpoch)
	refuses(t, r, in(0, minInt, rec(0, "s", 1)), api.ErrEpoch)
	fillSession := func(epoch int) {
		for n := range 5 {
			accepts(t, r, in(0, epoch, rec(n, "s", 1)), n+1)
		}
	}
	fillSession(0)
	accepts(t, r, in(0, 0, rec(7, "s", 100)), 5)
	accepts(t, r, in(0, 2, rec(3, "s", 1000)), 0)
	shows(t, r, `2:0[3]`+rest+` "s"=5,5,0`)
	for _, epoch := range []int{1, 0, -1} {
		refuses(t, r, in(0, epoch, rec(0, "s", 1)), api.ErrEpoch)
	}
	accepts(t, r, in(0, 3, rec(0, "s", 1)), 1) // what waited in epoch 2 is gone
	fillSession(4)
	shows(t, r, `4:5[]`+rest+` "s"=11,11,0`)
	accepts(t, r, in(0, maxInt, rec(1, "l", 2)), 0)
	refuses(t, r, in(0, maxInt-1, rec(0, "l", 2)), api.ErrEpoch)
	accepts(t, r, in(0, maxInt, rec(0, "l", 1)), 2)
	accepts(t, r, in(1, 0, rec(0, "l", 1)), 1) // the others are in epoch 0 still
	shows(t, r, `9223372036854775807:2[] 0:1[] 0:0[] 0:0[] "l"=3,1,0 "s"=11,11,0`)
}

// P4: the same epoch again is no new one.
func TestP4SameEpochGoesOn(t *testing.T) {
	r := culvert.New()
	accepts(t, r, in(0, 5, rec(0, "s", 1)), 1)
	accepts(t, r, in(0, 5, rec(2, "s", 2)), 1)
	accepts(t, r, in(0, 5, rec(0, "s", 1)), 1)
	accepts(t, r, in(0, 5, rec(1, "s", 4)), 3)
	shows(t, r, `5:3[]`+rest+` "s"=3,7,0`)
}

// P4: the window is the base and three more, and moves with the base.
func TestP4Window(t *testing.T) {
	r := culvert.New()
	for base := range 20 {
		for _, number := range []int{minInt, -1, base + 4, base + 5, maxInt, maxInt - 3} {
			refuses(t, r, rec(number, "s", 1), api.ErrFar)
		}
		accepts(t, r, rec(base, "s", 1), base+1)
	}
	for _, ahead := range []int{3, 1, 2} {
		accepts(t, r, rec(20+ahead, "s", 1), 20)
		refuses(t, r, rec(24, "s", 1), api.ErrFar) // those that wait don't move it
	}
	shows(t, r, `0:20[21 22 23]`+rest+` "s"=20,20,0`)
	accepts(t, r, rec(20, "s", 1), 24)
	accepts(t, r, rec(27, "s", 1), 24)
	refuses(t, r, rec(28, "s", 1), api.ErrFar)
}

// P4: whatever order four records come in, they are taken in the order of their numbers.
func TestP4EveryOrder(t *testing.T) {
	var orders [][]int
	for i := range 256 {
		order := []int{i & 3, i >> 2 & 3, i >> 4 & 3, i >> 6}
		if 1<<order[0]|1<<order[1]|1<<order[2]|1<<order[3] == 15 {
			orders = append(orders, order)
		}
	}
	if len(orders) != 24 {
		t.Fatalf("%d orders", len(orders))
	}
	for _, order := range orders {
		r := culvert.New()
		came := 0
		for _, n := range order {
			came |= 1 << n
			base := 0
			for came>>base&1 == 1 {
				base++
			}
			accepts(t, r, rec(n, "l", 10+n), base)
			s, _ := r.State()
			if base > 0 && (len(s.Keys) != 1 || s.Keys[0] != (api.Key{Name: "l", Count: base, Fold: 9 + base})) {
				t.Errorf("order %v: behind %d the key stands as %+v", order, n, s.Keys)
			}
		}
	}
}

// P4: taking stops at the first gap.
func TestP4Gaps(t *testing.T) {
	r := culvert.New()
	accepts(t, r, rec(3, "s", 8), 0)
	accepts(t, r, rec(1, "s", 2), 0)
	accepts(t, r, rec(0, "s", 1), 2)
	shows(t, r, `0:2[3]`+rest+` "s"=2,3,0`)
	accepts(t, r, rec(5, "s", 32), 2)
	accepts(t, r, rec(2, "s", 4), 4)
	shows(t, r, `0:4[5]`+rest+` "s"=4,15,0`)
	accepts(t, r, rec(4, "s", 16), 6)
	shows(t, r, `0:6[]`+rest+` "s"=6,63,0`)
}

// P4: a number that was taken, or waits, stands for the record that came first with it.
func TestP4AgainChangesNothing(t *testing.T) {
	r := culvert.New()
	for i, key := range []string{"s", "l", "m"} {
		accepts(t, r, rec(i, key, 5), i+1)
	}
	accepts(t, r, rec(5, "c", 5), 3)
	before := stateOf(t, r)
	for _, n := range []int{0, 1, 2, 5} {
		for _, key := range []string{"s", "l", "m", "c", "c9"} { // c9 would be a key too many
			accepts(t, r, rec(n, key, 99), 3)
			shows(t, r, before)
		}
	}
	accepts(t, r, rec(4, "l", 7), 3)
	accepts(t, r, rec(4, "l", 8), 3)
	accepts(t, r, rec(3, "s", 1), 6)
	shows(t, r, `0:6[]`+rest+` "c"=1,1,0 "l"=2,7,0 "m"=1,5,0 "s"=2,6,0`)
}

// P4: four keys may be there, taken or waiting, whichever the session.
func TestP4FourKeys(t *testing.T) {
	r := culvert.New()
	accepts(t, r, rec(0, "s", 1), 1)
	accepts(t, r, rec(2, "s1", 1), 1)
	accepts(t, r, in(1, 0, rec(3, "s2", 1)), 0)
	accepts(t, r, in(2, 0, rec(0, "s3", 1)), 1)
	for session := range 4 {
		for _, number := range []int{1, 2} {
			if session != 0 || number != 2 { // that one waits already
				refuses(t, r, in(session, 0, rec(number, "s4", 1)), api.ErrMany)
			}
		}
	}
	refuses(t, r, in(3, 0, rec(0, "s4", 1)), api.ErrMany)
	refuses(t, r, in(3, 8, rec(0, "s4", 1)), api.ErrMany)
	for i, key := range []string{"s", "s1", "s2", "s3"} {
		accepts(t, r, in(3, 0, rec(i, key, 1)), i+1)
	}
	accepts(t, r, rec(1, "s", 1), 3)
	shows(t, r, `0:3[] 0:0[3] 0:1[] 0:4[] "s"=3,3,0 "s1"=2,2,0 "s2"=1,1,0 "s3"=2,2,0`)
}

// P4: a key that only waited is gone with its records, but not ahead of the last of them.
func TestP4KeysOfAnEpochThatIsOver(t *testing.T) {
	r := culvert.New()
	accepts(t, r, rec(1, "c", 1), 0)
	accepts(t, r, rec(2, "s", 1), 0)
	accepts(t, r, rec(3, "l", 1), 0)
	accepts(t, r, in(1, 0, rec(1, "m", 1)), 0)
	accepts(t, r, in(1, 0, rec(2, "c", 1)), 0)
	accepts(t, r, in(2, 0, rec(0, "s", 1)), 1)
	refuses(t, r, in(1, 0, rec(3, "m2", 1)), api.ErrMany)
	accepts(t, r, in(0, 1, rec(1, "l2", 1)), 0) // l is not there any more: c, s, m, l2 are
	refuses(t, r, in(1, 0, rec(3, "l", 1)), api.ErrMany)
	accepts(t, r, in(1, 0, rec(3, "c", 1)), 0)
	accepts(t, r, in(1, 4, rec(2, "m2", 1)), 0) // nor are m and c: s, l2, m2 are
	accepts(t, r, in(3, 0, rec(0, "c", 1)), 1)
	refuses(t, r, in(3, 0, rec(1, "m", 1)), api.ErrMany)
	shows(t, r, `1:0[1] 4:0[2] 0:1[] 0:1[] "c"=1,1,0 "s"=1,1,0`)
}

// P4: a key that only waited makes room for another one, in the very record that ends its epoch.
func TestP4NewEpochMakesRoomForItsKey(t *testing.T) {
	r := culvert.New()
	for i, key := range []string{"c", "s", "l"} {
		accepts(t, r, in(1, 0, rec(i, key, 1)), i+1)
	}
	accepts(t, r, rec(1, "m", 1), 0)
	refuses(t, r, rec(0, "m1", 1), api.ErrMany)
	accepts(t, r, in(0, 1, rec(0, "m1", 1)), 1)
	shows(t, r, `1:1[] 0:3[] 0:0[] 0:0[] "c"=1,1,0 "l"=1,1,0 "m1"=1,1,0 "s"=1,1,0`)
}

// P4: a key stays when its record is taken, whatever epochs come.
func TestP4TakenKeysStay(t *testing.T) {
	r := culvert.New()
	for i, key := range []string{"c", "s", "l", "m"} {
		accepts(t, r, in(0, i, rec(0, key, 1)), 1)
	}
	refuses(t, r, in(0, 9, rec(0, "m1", 1)), api.ErrMany)
	shows(t, r, `3:1[]`+rest+` "c"=1,1,0 "l"=1,1,0 "m"=1,1,0 "s"=1,1,0`)
}

// P4: 1000 records may be taken or wait, those of all sessions and keys together.
func TestP4ThousandRecords(t *testing.T) {
	r := culvert.New()
	fill(t, r, "s", 990)
	for i, key := range []string{"s", "c", "l"} {
		for n := range 3 {
			accepts(t, r, in(i, 0, rec(n+1, key, 1)), 0)
		}
	}
	accepts(t, r, in(3, 0, rec(991, "s", 1)), 990)
	for _, x := range []api.Record{
		rec(0, "s", 1), in(1, 0, rec(0, "c", 1)), in(2, 0, rec(0, "l", 1)), in(3, 0, rec(990, "s", 1)), in(3, 0, rec(993, "m", 1)),
	} {
		refuses(t, r, x, api.ErrFull)
	}
	accepts(t, r, rec(2, "l", 9), 0) // again: that changes nothing, and is no error
	accepts(t, r, in(3, 0, rec(0, "m", 9)), 990)
	accepts(t, r, in(3, 0, rec(991, "m", 9)), 990)
	shows(t, r, `0:0[1 2 3] 0:0[1 2 3] 0:0[1 2 3] 0:990[991] "s"=990,990,0`)
	accepts(t, r, in(0, 1, rec(0, "s", 5)), 1) // three wait no longer, and one comes
	accepts(t, r, in(1, 0, rec(0, "c", 5)), 4)
	accepts(t, r, in(3, 0, rec(990, "s", 5)), 992)
	refuses(t, r, in(3, 0, rec(992, "s", 5)), api.ErrFull)
	refuses(t, r, in(0, 1, rec(2, "s", 5)), api.ErrFull)
	shows(t, r, `1:1[] 0:4[] 0:0[1 2 3] 0:992[] "c"=4,4,0 "s"=993,1001,0`)
}

// P4: what was taken is never given back: a relay that took 1000 records takes none any more.
func TestP4ThousandTaken(t *testing.T) {
	r := culvert.New()
	fill(t, r, "c", 1000)
	refuses(t, r, in(3, 0, rec(1000, "c", 1)), api.ErrFull)
	refuses(t, r, in(3, 1, rec(0, "c", 1)), api.ErrFull)
	refuses(t, r, in(0, 0, rec(3, "s", 1)), api.ErrFull)
	refuses(t, r, in(3, 0, rec(1004, "c", 1)), api.ErrFar)
	accepts(t, r, in(3, 0, rec(999, "c", 1)), 1000)
	shows(t, r, `0:0[] 0:0[] 0:0[] 0:1000[] "c"=1000,1000,0`)
}
