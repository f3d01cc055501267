package graph

// queue is a heap of the packages that may come next: the one with the least name first.
type queue struct {
	names   []string // of all packages
	numbers []int
}

func (q *queue) Len() int {
	return len(q.numbers)
}

func (q *queue) Less(i, j int) bool {
	return q.names[q.numbers[i]] < q.names[q.numbers[j]]
}

func (q *queue) Swap(i, j int) {
	q.numbers[i], q.numbers[j] = q.numbers[j], q.numbers[i]
}

// Push puts a number at the end, for package heap.
func (q *queue) Push(x any) {
	q.numbers = append(q.numbers, x.(int))
}

// Pop takes the number at the end, for package heap.
func (q *queue) Pop() any {
	last := len(q.numbers) - 1
	number := q.numbers[last]
	q.numbers = q.numbers[:last]
	return number
}
