package tape

import "strconv"

// Fault is what is wrong with a row.
type Fault int

const (
	Cut     Fault = iota + 1 // it ends within something that it began
	Foreign                  // no relay writes this
)

func (f Fault) Error() string {
	if f == Cut {
		return "the bytes end too early"
	}
	return "no relay writes this"
}

// Place wraps what is wrong by where it was found.
type Place struct {
	At  int // how many bytes stand ahead of it
	Err error
}

func (p *Place) Error() string {
	return "behind " + strconv.Itoa(p.At) + " bytes: " + p.Err.Error()
}

func (p *Place) Unwrap() error { return p.Err }
