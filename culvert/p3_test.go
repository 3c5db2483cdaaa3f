package culvert_test

import (
	"testing"

	"culvert/api"
	"culvert/culvert"
)

// P3: nothing was taken in a new relay, and nothing waits.
func TestP3New(t *testing.T) {
	r := culvert.New()
	if r == nil {
		t.Fatal("New gave nothing")
	}
	shows(t, r, "0:0[]"+rest)
}

// P3: the first Close is OK, all others are not.
func TestP3CloseOnce(t *testing.T) {
	r := culvert.New()
	for i, want := range []api.Errno{api.OK, api.ErrClosed, api.ErrClosed} {
		if got := r.Close(); got != want {
			t.Errorf("Close number %d = %d, want %d", i, got, want)
		}
	}
}

// P3 and P1: every call of a closed relay answers ErrClosed ahead of all else, and nothing beside.
func TestP3ClosedRelay(t *testing.T) {
	r := waitingEverywhere(t)
	r.Close()
	for range 2 {
		for _, x := range []api.Record{
			rec(1, "s", 1), rec(0, "s", 5), rec(9, "s", 1), in(9, -1, rec(-1, "", -1)), in(0, 1, rec(0, "s", 1)), rec(1, "x", 1), in(0, -1, rec(0, "s", 1)),
		} {
			if base, errno := r.Accept(x); base != 0 || errno != api.ErrClosed {
				t.Errorf("Accept(%s) = %d, %d", tell(x), base, errno)
			}
		}
		if s, errno := r.State(); len(s.Sessions) != 0 || len(s.Keys) != 0 || errno != api.ErrClosed {
			t.Errorf("State() = %s, %d", text(s), errno)
		}
		if puts, errno := r.Puts(); len(puts) != 0 || errno != api.ErrClosed {
			t.Errorf("Puts() = %v, %d", puts, errno)
		}
		for _, key := range []string{"s", "m", "", "xxxxxxxxx"} {
			if errno := r.Answer(key, -1); errno != api.ErrClosed {
				t.Errorf("Answer(%q, -1) = %d", key, errno)
			}
		}
		if bytes, errno := r.Bytes(); bytes != "" || errno != api.ErrClosed {
			t.Errorf("Bytes() = %q, %d", bytes, errno)
		}
		if errno := r.Shrink(); errno != api.ErrClosed {
			t.Errorf("Shrink() = %d", errno)
		}
		if errno := r.Close(); errno != api.ErrClosed {
			t.Errorf("Close() = %d", errno)
		}
	}
}
