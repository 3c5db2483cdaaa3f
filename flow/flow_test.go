package flow

import (
	"container/heap"
	"testing"
)

// Ways, container/heap: whatever order they come in, the least number is on top, and goes first.
func TestTheLeastNumberIsOnTop(t *testing.T) {
	for _, order := range [][]int{{1, 2, 3, 4}, {4, 3, 2, 1}, {3, 1, 4, 2}, {2, 4, 1, 3}} {
		var q queue
		least := order[0]
		for _, n := range order {
			heap.Push(&q, waiter{number: n, key: "s"})
			least = min(least, n)
			if q[0].number != least {
				t.Errorf("order %v: %d is on top behind %d", order, q[0].number, n)
			}
		}
		for want := 1; want <= 4; want++ {
			if got := heap.Pop(&q).(waiter).number; got != want {
				t.Errorf("order %v: %d goes, want %d", order, got, want)
			}
		}
		for _, w := range q[:4] {
			if w != (waiter{}) {
				t.Errorf("order %v: %v is kept behind the end", order, w)
			}
		}
	}
}

// Nothing is kept of a session's earlier epoch.
func TestTurnForgets(t *testing.T) {
	l := lane{epoch: 1, base: 5, waiting: queue{{number: 6, key: "s"}}}
	l.turn(1)
	if l.base != 5 || len(l.waiting) != 1 {
		t.Errorf("the same epoch turned the session to %+v", l)
	}
	l.turn(2)
	if l.epoch != 2 || l.base != 0 || cap(l.waiting) != 0 {
		t.Errorf("a new epoch turned the session to %+v", l)
	}
}
