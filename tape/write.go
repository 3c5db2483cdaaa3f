// Package tape writes what a flow keeps as a row of bytes, and reads it again.
//
// A row begins with a head, which tells all of a flow, and goes on with an entry for each call that
// changed it. Each of these says itself where it ends: so one that was cut is always seen, and what
// stands ahead of it counts.
package tape

import (
	"culvert/api"
	"culvert/flow"
)

// mark is what every row begins with; its digit stands for the form.
const mark = "culvert1"

// What an entry begins with says of which call it is.
const (
	recordEntry = "r"
	answerEntry = "a"
)

// A number stands as digits of seven bits, the lowest first; more is the bit that says that another follows.
const (
	digitBits  = 7
	more       = 1 << digitBits
	numberBits = 63 // an int that is not below 0
)

// Head is the row that tells how a flow stands, and nothing of how it came there.
func Head(f *flow.Flow) []byte {
	row := []byte(mark)
	state, waiting := f.State(), f.Waiting()
	for _, s := range state.Sessions {
		row = addNumbers(row, s.Epoch, s.Base)
	}
	row = addNumbers(row, len(state.Keys))
	for _, key := range state.Keys {
		row = addKey(row, key.Name)
		row = addNumbers(row, key.Count, key.Fold, key.Held)
	}
	row = addNumbers(row, len(waiting))
	for _, x := range waiting {
		row = addRecord(row, x)
	}
	return row
}

// AddRecord writes down a record that was let in.
func AddRecord(row []byte, x api.Record) []byte {
	return addRecord(append(row, recordEntry...), x)
}

// AddAnswer writes down an answer that made Held greater.
func AddAnswer(row []byte, name string, held int) []byte {
	return addNumbers(addKey(append(row, answerEntry...), name), held)
}

func addRecord(row []byte, x api.Record) []byte {
	row = addNumbers(row, x.Session, x.Epoch, x.Number)
	return addNumbers(addKey(row, x.Key), x.Value)
}

func addKey(row []byte, name string) []byte {
	return append(addNumbers(row, len(name)), name...)
}

// addNumbers writes numbers, none of them below 0.
func addNumbers(row []byte, numbers ...int) []byte {
	for _, n := range numbers {
		for ; n >= more; n >>= digitBits {
			row = append(row, byte(n)|more)
		}
		row = append(row, byte(n))
	}
	return row
}
