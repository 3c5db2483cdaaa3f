package flow

import (
	"cmp"
	"container/heap"
	"slices"

	"culvert/api"
)

// lane is one session: its epoch, the number that it takes next, and those that wait.
type lane struct {
	epoch, base int
	waiting     queue
}

// turn begins a later epoch: what waited in the one before is never taken.
func (l *lane) turn(epoch int) {
	if epoch > l.epoch {
		*l = lane{epoch: epoch}
	}
}

func (l *lane) reaches(number int) bool {
	return number >= 0 && number < l.base+api.MaxWindow
}

// has says whether the record with this number came already: it was taken, or it waits.
func (l *lane) has(number int) bool {
	return number < l.base || slices.ContainsFunc(l.waiting, func(w waiter) bool {
		return w.number == number
	})
}

func (l *lane) add(w waiter) { heap.Push(&l.waiting, w) }

// next lets the record go whose turn it is, if it is here.
func (l *lane) next() (waiter, bool) {
	if len(l.waiting) == 0 || l.waiting[0].number != l.base {
		return waiter{}, false
	}
	l.base++
	return heap.Pop(&l.waiting).(waiter), true
}

// ordered sorts those that wait, since a heap is in order only at its top.
func (l *lane) ordered() []waiter {
	return slices.SortedFunc(slices.Values(l.waiting), func(a, b waiter) int { return cmp.Compare(a.number, b.number) })
}

func (l *lane) state() api.Session {
	numbers := make([]int, 0, len(l.waiting))
	for _, w := range l.ordered() {
		numbers = append(numbers, w.number)
	}
	return api.Session{Epoch: l.epoch, Base: l.base, Waiting: numbers}
}
