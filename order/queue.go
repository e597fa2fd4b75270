package order

import "container/heap"

// queue is the names of a graph on their way into an order.
type queue struct {
	ready   least               // names that aren't done, and wait for none
	waiting map[string][]string // who waits for a name that isn't done
	count   map[string]int      // how many each name waits for
}

// newQueue: none of a graph's names is done.
func newQueue(g *Graph) *queue {
	q := &queue{waiting: map[string][]string{}, count: map[string]int{}}
	for _, name := range g.names {
		for _, need := range g.needs[name] {
			if need != name && g.has(need) {
				q.waiting[need] = append(q.waiting[need], name)
				q.count[name]++
			}
		}
		if q.count[name] == 0 {
			q.ready = append(q.ready, name) // they rise, so that they are a heap as they come
		}
	}
	return q
}

// next is the least of the names that are ready, of which there must be one; it is done then.
func (q *queue) next() string {
	name := heap.Pop(&q.ready).(string)
	for _, user := range q.waiting[name] {
		q.count[user]--
		if q.count[user] == 0 {
			heap.Push(&q.ready, user)
		}
	}
	delete(q.waiting, name)
	return name
}

// least is a heap of names, the least first.
type least []string

// Len is for the heap.
func (l least) Len() int { return len(l) }

// Less is for the heap.
func (l least) Less(i, j int) bool { return l[i] < l[j] }

// Swap is for the heap.
func (l least) Swap(i, j int) { l[i], l[j] = l[j], l[i] }

// Push is for the heap.
func (l *least) Push(name any) { *l = append(*l, name.(string)) }

// Pop is for the heap.
func (l *least) Pop() any {
	last := len(*l) - 1
	name := (*l)[last]
	*l = (*l)[:last]
	return name
}
