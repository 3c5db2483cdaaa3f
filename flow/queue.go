package flow

// waiter is what must be known of a record until its turn comes.
type waiter struct {
	number int
	key    string
	value  int
}

// queue is a heap (container/heap) by number: whose turn comes first is on top.
type queue []waiter

func (q queue) Len() int { return len(q) }

func (q queue) Less(i, j int) bool { return q[i].number < q[j].number }

func (q queue) Swap(i, j int) { q[i], q[j] = q[j], q[i] }

// Push is for container/heap alone.
func (q *queue) Push(x any) { *q = append(*q, x.(waiter)) }

// Pop is for container/heap alone.
func (q *queue) Pop() any {
	last := len(*q) - 1
	w := (*q)[last]
	(*q)[last] = waiter{} // or the key would be kept behind the end
	*q = (*q)[:last]
	return w
}
