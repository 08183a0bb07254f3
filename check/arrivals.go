package check

import "container/heap"

// arrival: an instruction that is still to be looked at, and what is there ahead of it.
type arrival struct {
	at    int
	ahead state
}

// arrivals is a heap, the least instruction first. One that is reached by several ways stands in it
// as often.
type arrivals []arrival

func (a arrivals) Len() int           { return len(a) }
func (a arrivals) Less(i, j int) bool { return a[i].at < a[j].at }
func (a arrivals) Swap(i, j int)      { a[i], a[j] = a[j], a[i] }
func (a *arrivals) Push(x any)        { *a = append(*a, x.(arrival)) }

func (a *arrivals) Pop() any {
	last := len(*a) - 1
	x := (*a)[last]
	*a = (*a)[:last]
	return x
}

func (a *arrivals) add(at int, ahead state) {
	heap.Push(a, arrival{at, ahead})
}

func (a arrivals) anyBefore(at int) bool {
	return len(a) > 0 && a[0].at < at
}

// next takes out the least instruction, with all ways to it that stand here. As ways go forward
// alone, none of them is still to come.
func (a *arrivals) next() (at int, ahead state) {
	first := heap.Pop(a).(arrival)
	for a.anyBefore(first.at + 1) {
		first.ahead.meet(heap.Pop(a).(arrival).ahead)
	}
	return first.at, first.ahead
}
