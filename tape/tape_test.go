package tape

import (
	"errors"
	"math"
	"strings"
	"testing"

	"culvert/api"
	"culvert/flow"
)

// started is a row with a key, a record that waits, and two entries.
func started(t *testing.T) (string, *flow.Flow) {
	t.Helper()
	var f flow.Flow
	f.Accept(api.Record{Key: "s", Value: 5})
	f.Accept(api.Record{Session: 3, Epoch: math.MaxInt, Number: 2, Key: "m\x00", Value: math.MaxUint32})
	row := Head(&f)
	late := api.Record{Number: 1, Key: "l", Value: 300}
	if _, changed, errno := f.Accept(late); !changed || errno != api.OK {
		t.Fatalf("the record is let in: %t, with %d", changed, errno)
	}
	if changed, errno := f.Answer("s", 1); !changed || errno != api.OK {
		t.Fatalf("the answer is believed: %t, with %d", changed, errno)
	}
	return string(AddAnswer(AddRecord(row, late), "s", 1)), &f
}

func TestWhatIsWrittenIsRead(t *testing.T) {
	row, want := started(t)
	told, counted, err := Read(row)
	if counted != len(row) || err != nil {
		t.Fatalf("%d of %d bytes count, with %v", counted, len(row), err)
	}
	if got := string(Head(&told)); got != string(Head(want)) {
		t.Errorf("the flow's head is %q, want %q", got, Head(want))
	}
}

func TestNumbers(t *testing.T) {
	for _, n := range []int{0, 1, 127, 128, 129, 255, 16383, 16384, math.MaxUint32, math.MaxInt - 1, math.MaxInt} {
		row := string(addNumbers(nil, n))
		for size := range row {
			r := reader{row: row[:size]}
			if got := r.number(); got != 0 || !errors.Is(r.err, Cut) {
				t.Errorf("%d of the bytes of %d are %d, with %v", size, n, got, r.err)
			}
		}
		r := reader{row: row + "\xff"}
		if got := r.number(); got != n || r.at != len(row) || r.err != nil {
			t.Errorf("%d is read as %d, up to %d, with %v", n, got, r.at, r.err)
		}
	}
}

func TestNumbersThatNoIntHolds(t *testing.T) {
	for _, row := range []string{strings.Repeat("\xff", 9), strings.Repeat("\x80", 9) + "\x01", strings.Repeat("\xff", 1000)} {
		r := reader{row: row}
		if got := r.number(); got != 0 || !errors.Is(r.err, Foreign) {
			t.Errorf("%.20q is read as %d, with %v", row, got, r.err)
		}
	}
}

// Ways, Errors: what is wrong is asked with errors.As, through what wraps it: where it was found.
func TestFaultsAndPlaces(t *testing.T) {
	row, f := started(t)
	head := len(Head(&flow.Flow{}))
	empty := string(Head(&flow.Flow{}))
	for _, x := range []struct {
		name    string
		row     string
		counted int
		at      int
		want    Fault
	}{
		{"nothing", "", 0, 0, Cut},
		{"a short beginning", "culv", 0, 0, Cut},
		{"another beginning", "culvert2" + empty[8:], 0, 8, Foreign},
		{"half a head", empty[:head-2], 0, head - 2, Cut},
		{"too many keys", empty[:head-2] + "\x05", 0, head - 1, Foreign},
		{"too many that wait", empty[:head-1] + "\x0d", 0, head, Foreign},
		{"a base without records", "culvert1" + "\x00\x01" + empty[10:], 0, head, Foreign},
		{"an unknown entry", row + "x", len(row), len(row) + 1, Foreign},
		{"a record with no end", row + "r\x01\x02", len(row), len(row) + 3, Cut},
		{"a record with half a key", row + "r\x00\x00\x02\x02s", len(row), len(row) + 5, Cut},
		{"a record with a long key", row + "r\x00\x00\x02\x07sssssss\x01", len(row), len(row) + 5, Foreign},
		{"a record that is refused", row + "r\x00\x00\x09\x01s\x01", len(row), len(row) + 7, Foreign},
		{"an answer with no end", row + "a\x01s", len(row), len(row) + 3, Cut},
		{"an answer that is refused", row + "a\x01s\x02", len(row), len(row) + 4, Foreign},
		{"wrong ahead of the end", row + "a\x01s\x02" + "r", len(row), len(row) + 4, Foreign},
	} {
		told, counted, err := Read(x.row)
		var fault Fault
		var place *Place
		if !errors.As(err, &fault) || !errors.As(err, &place) {
			t.Errorf("%s: the error is %v", x.name, err)
			continue
		}
		if fault != x.want || place.At != x.at || counted != x.counted {
			t.Errorf("%s: %d bytes count, then %v", x.name, counted, err)
		}
		if counted > 0 && string(Head(&told)) != string(Head(f)) {
			t.Errorf("%s: what is wrong has changed what stands ahead", x.name)
		}
	}
}

func TestErrorsTellWhatAndWhere(t *testing.T) {
	for err, want := range map[error]string{
		&Place{At: 12, Err: Cut}:    "behind 12 bytes: the bytes end too early",
		&Place{At: 0, Err: Foreign}: "behind 0 bytes: no relay writes this",
	} {
		if got := err.Error(); got != want {
			t.Errorf("the error says %q, want %q", got, want)
		}
	}
}
