package graph

import (
	"container/heap"
	"slices"
)

// links tell by two numbers whether the first package imports the second. A table, so that an import that is named twice counts once.
type links [][]bool

// linked are the links of packages; else the number of the first one that imports what is none of them, and false.
func linked(names []string, needs [][]string) (links, int, bool) {
	ways := make(links, len(names))
	for i := range names {
		ways[i] = make([]bool, len(names))
		if i >= len(needs) {
			continue
		}
		for _, need := range needs[i] {
			to := slices.Index(names, need)
			if to < 0 {
				return nil, i, false
			}
			ways[i][to] = true
		}
	}
	return ways, 0, true
}

// order are the packages in the order in which they are made; those that stand on a ring, or need one that does, are left out.
func (ways links) order(names []string) []int {
	next := &queue{names: names}
	missing := make([]int, len(names))
	for i := range names {
		missing[i] = ways.imports(i)
		if missing[i] == 0 {
			heap.Push(next, i)
		}
	}
	var order []int
	for next.Len() > 0 {
		made := heap.Pop(next).(int)
		order = append(order, made)
		for i := range names {
			if !ways[i][made] {
				continue
			}
			missing[i]--
			if missing[i] == 0 {
				heap.Push(next, i)
			}
		}
	}
	return order
}

// imports is how many packages one imports.
func (ways links) imports(at int) int {
	n := 0
	for _, is := range ways[at] {
		if is {
			n++
		}
	}
	return n
}

// below are, rising, the numbers of all that a package needs, itself too. Gone through from the order's end, each package comes behind all that need it, so that once is enough.
func (ways links) below(order []int, at int) []int {
	needed := make([]bool, len(ways))
	needed[at] = true
	for _, i := range slices.Backward(order) {
		if !needed[i] {
			continue
		}
		for to, is := range ways[i] {
			needed[to] = needed[to] || is
		}
	}
	var numbers []int
	for i, is := range needed {
		if is {
			numbers = append(numbers, i)
		}
	}
	return numbers
}
